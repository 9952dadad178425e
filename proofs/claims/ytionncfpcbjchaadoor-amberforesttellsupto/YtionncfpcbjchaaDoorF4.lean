import Derived.Test.YtionncfpcbjchaaDoorF3
namespace Go.Proofs.YtionncfpcbjchaaDoor
open Go.RowKit
/-- two strings joined -/
theorem wp_cat {P : Program} {ops : Array Oper} {rest : List Oper} {op : Oper} {a : Act} {w : World} {Q : Exit → Act → World → Prop} (hw : Region.wanted op (yielded ops a.tmps) = true) {t t' : TypeId} (x y : Operand) (ho : op.op = .binOp .add t x y t') {A B Y : Tx}
    (hx : a.eval x = .string ⟨A.toArray⟩) (hy : a.eval y = .string ⟨B.toArray⟩) (hY : A ++ B = Y) (hl : Y.length ≤ 9223372036854775807) (h : wpList P ops Q rest (a.put op.dst (.string ⟨Y.toArray⟩)) w) : wpList P ops Q (op :: rest) a w :=
  BigFrame.wpList_want hw fun _ hK => by
    have hs := run_string_add_sum (P := P) w (⟨A.toArray⟩ : ByteArray) ⟨B.toArray⟩ (by
      have e := congrArg List.length hY
      rw [List.length_append] at e
      simp [ByteArray.size]
      omega)
    rw [str_app, hY] at hs
    have hr : (execOp a.eval op).run P w = .ok (.value (.string ⟨Y.toArray⟩)) w := by
      unfold execOp
      rw [ho]
      simp [hx, hy, binOp, eqGuard, hs]
    unfold Oper.wp
    rw [hr]
    exact hK _ _ h
set_option maxRecDepth 100000 in
set_option maxHeartbeats 2000000 in
theorem list_any (w : World) (L : List Int) (v : Value) (hR : RdI w v L) (hI : ∀ z ∈ L, I64 z) (h3 : 3 ≤ w.heap.size) (hT : Tb w) (hl : 22 * L.length ≤ 800000000) :
    Calls Tryd.prog 13 #[v] w fun e w' => e = .returned (.string ⟨(lst L).toArray⟩) ∧ Below w.heap.size w w' := by
  obtain ⟨a, c, rfl, hac⟩ := hR.len
  have hI' := hide hI
  have H0 : Hid (RdI w (.slice a L.length c) L ∧ Tb w ∧ Below w.heap.size w w) := hide ⟨hR, hT, Below.refl _ _⟩
  clear hI hR hT
  have HL := hide hl
  have hL : L.length ≤ 800000000 := by omega
  clear hl
  go_enter Tryd.func13, Tryd.ntmps13
  go_wp2
  go_loopw [4, 3] (fun i s wr => ∃ k : Nat, k ≤ L.length ∧ i = .int .i64 (k : Int) ∧ s = .string ⟨(lst (L.take k)).toArray⟩ ∧ Hid (RdI wr (.slice a L.length c) L ∧ Tb wr ∧ Below w.heap.size w wr)) (fun i _ _ => L.length - (intOf i).toNat)
  case atStart => exact ⟨0, by omega, rfl, by simp [lst], H0⟩
  case round =>
    obtain ⟨k, hk, rfl, rfl, HR⟩ := hrel
    by_cases hlt : k < L.length
    · have hd : decide ((k : Int) < (L.length : Int)) = true := by simp; omega
      obtain ⟨z, hz⟩ : ∃ z, L[k]? = some z := ⟨L[k], by simp [hlt]⟩
      obtain ⟨g, rfl, hcl⟩ := HR.out.1.get hz
      unfold In at hcl
      have HZ := hide hz
      have HIz := hide (hI'.out z (List.mem_of_getElem? hz))
      obtain ⟨X, hX⟩ : ∃ X, lst (L.take k) = X := ⟨_, rfl⟩
      have HXe := hide hX
      rw [hX]
      have hXl : X.length ≤ 800000000 := by
        have e1 := lst_len (L := L.take k) (fun x hx => hI'.out x (List.mem_of_mem_take hx))
        have e2 := HL.out
        rw [List.length_take] at e1
        rw [hX] at e1
        omega
      have hIl := Lib.itoa_length_le z HIz.out.1 HIz.out.2
      clear hz hX
      go_wp2_with (refine wp_cat (by rfl) (.tmp 11) (.const (.string ⟨#[32]⟩)) rfl rfl (B := [32]) rfl (Y := X ++ [32]) rfl (by simp; omega) ?_)
      refine (itoa_any wr z HIz.out HR.out.2.1).mono ?_
      rintro e w1 ⟨rfl, hb1⟩
      have HN : Hid (RdI w1 (.slice (some ⟨g, 0, none⟩) L.length c) L ∧ Tb w1 ∧ Below w.heap.size w w1) := hide ⟨HR.out.1.up hb1, HR.out.2.1.up (by have := HR.out.2.2.size; omega) hb1, HR.out.2.2.trans (hb1.mono HR.out.2.2.size)⟩
      clear hb1 HR
      have eL : X ++ [32] ++ Lib.itoa z = lst (L.take (k + 1)) := by
        rw [List.take_add_one, HZ.out, ← HXe.out]
        simp [lst]
      obtain ⟨I, hI⟩ : ∃ I, Lib.itoa z = I := ⟨_, rfl⟩
      rw [hI] at eL hIl ⊢
      clear hI HXe
      go_wp2_with (refine wp_cat (by rfl) (.tmp 12) (.tmp 17) rfl rfl rfl eL (by rw [← eL]; simp; omega) ?_)
      go_roundw
      case rel => exact ⟨k + 1, by omega, by go_num, rfl, HN⟩
      case measure => simp [intOf]; omega
    · have hd : decide ((k : Int) < (L.length : Int)) = false := by simp; omega
      obtain rfl : k = L.length := by omega
      clear H0
      go_wp2
      go_ret
      exact ⟨by simp, HR.out.2.2⟩
set_option maxRecDepth 100000 in
set_option maxHeartbeats 2000000 in
theorem rline_any (w : World) (s : Tx) (L : List Int) (v : Value) (hR : RdI w v L) (hI : ∀ z ∈ L, I64 z) (h3 : 3 ≤ w.heap.size) (hT : Tb w) (hl : s.length + 22 * L.length ≤ 800000000) :
    Calls Tryd.prog 12 #[.string ⟨s.toArray⟩, v] w fun e w' => e = .returned (.string ⟨(s ++ lst L ++ [10]).toArray⟩) ∧ Below w.heap.size w w' := by
  have hW := list_any w L v hR hI h3 hT (by omega)
  obtain ⟨a, c, rfl, hac⟩ := hR.len
  have h2 := lst_len hI
  clear hR hI hT
  go_enter Tryd.func12, Tryd.ntmps12
  go_wp2_with fail
  refine hW.mono ?_
  rintro e w1 ⟨rfl, hb⟩
  have HB := hide hb
  clear hb hW
  go_wp2_with (first | (refine wp_cat (by rfl) (.tmp 5) (.tmp 7) rfl rfl rfl (Y := s ++ lst L) rfl (by simp; omega) ?_) | (refine wp_cat (by rfl) (.tmp 8) (.const (.string ⟨#[10]⟩)) rfl rfl (B := [10]) rfl (Y := s ++ lst L ++ [10]) rfl (by simp; omega) ?_))
  go_ret
  exact ⟨by simp, HB.out⟩
end Go.Proofs.YtionncfpcbjchaaDoor
