import Derived.Test.YtionncfpcbjchaaDoorF1
namespace Go.Proofs.YtionncfpcbjchaaDoor
open Go.RowKit
theorem Tb.fr {w w' : World} {b : Nat} (h : Tb w) (hb : 3 ≤ b) (hf : Fr b w w') : Tb w' := h.up hb hf.1
theorem itoa_any (w : World) (z : Int) (hz : I64 z) (hT : Tb w) : Calls Tryd.prog 14 #[.int .i64 z] w fun e w' => e = .returned (.string ⟨(Lib.itoa z).toArray⟩) ∧ Below w.heap.size w w' := Tryd.itoa z hz.1 hz.2 w hT
set_option maxRecDepth 100000 in
set_option maxHeartbeats 2000000 in
theorem numbers_any (w : World) (b : Nat) (T : Tx) (L : List Int) (v : Value) (h3 : 3 ≤ b) (h : Sh w b T) (hF : Opn T) (hR : RdI w v L) (hI : ∀ z ∈ L, I64 z) (hT : Tb w) (hl : T.length + 22 * L.length ≤ 800000000) :
    Calls Tryd.prog 17 #[.pointer (some ⟨b, 0, none⟩), v] w fun e w' => e = .returned (.tuple #[]) ∧ Sh w' b (T ++ lst L) ∧ Fr b w w' := by
  obtain ⟨a, c, rfl, hac⟩ := hR.len
  have hI' := hide hI
  have H0 : Hid (Sh w b (T ++ lst (L.take 0)) ∧ RdI w (.slice a L.length c) L ∧ Tb w ∧ Fr b w w) := hide ⟨by simpa [lst] using h, hR, hT, Fr.refl _ _⟩
  have HF := hide hF
  clear hI h hR hT hF
  have hL : L.length ≤ 800000000 := by omega
  have HL := hide hl
  clear hl
  go_enter Tryd.func17, Tryd.ntmps17
  go_wp2
  go_loopw [8] (fun i wr => ∃ k : Nat, k ≤ L.length ∧ i = .int .i64 (k : Int) ∧ Hid (Sh wr b (T ++ lst (L.take k)) ∧ RdI wr (.slice a L.length c) L ∧ Tb wr ∧ Fr b w wr)) (fun i _ => L.length - (intOf i).toNat)
  case atStart => exact ⟨0, by omega, rfl, H0⟩
  case round =>
    obtain ⟨k, hk, rfl, HR⟩ := hrel
    by_cases hlt : k < L.length
    · have hd : decide ((k : Int) < (L.length : Int)) = true := by simp; omega
      obtain ⟨z, hz⟩ : ∃ z, L[k]? = some z := ⟨L[k], by simp [hlt]⟩
      obtain ⟨g, rfl, hcl⟩ := HR.out.2.1.get hz
      unfold In at hcl
      have HZ := hide hz
      have HIz := hide (hI'.out z (List.mem_of_getElem? hz))
      clear hz
      go_wp2_with fail
      refine (itoa_any wr z HIz.out HR.out.2.2.1).mono ?_
      rintro e w1 ⟨rfl, hb1⟩
      have HB1 := hide hb1
      clear hb1 hcl
      have hln : (T ++ lst (L.take k)).length + (Lib.itoa z).length ≤ 900000000 := by
        have e1 := lst_len (L := L.take k) (fun x hx => hI'.out x (List.mem_of_mem_take hx))
        have e2 := Lib.itoa_length_le z HIz.out.1 HIz.out.2
        have e3 := HL.out
        rw [List.length_take] at e1
        rw [List.length_append]
        omega
      go_wp2_with fail
      refine (word_mid w1 b _ (Lib.itoa z) (HR.out.1.up HB1.out) (HF.out.lst _) hln).mono ?_
      rintro e w2 ⟨rfl, hS, hFr⟩
      have eL : T ++ lst (L.take k) ++ 32 :: Lib.itoa z = T ++ lst (L.take (k + 1)) := by
        rw [List.take_add_one, HZ.out]
        simp [lst]
      rw [eL] at hS
      have hFw := (Fr.of HB1.out (by have := HR.out.1.lt; omega)).trans hFr
      have HN : Hid (Sh w2 b (T ++ lst (L.take (k + 1))) ∧ RdI w2 (.slice (some ⟨g, 0, none⟩) L.length c) L ∧ Tb w2 ∧ Fr b w w2) := hide ⟨hS, HR.out.2.1.fr HR.out.1 hFw, HR.out.2.2.1.fr h3 hFw, HR.out.2.2.2.trans hFw⟩
      clear hS hFr hFw HR HB1
      go_wp2
      go_roundw
      case rel => exact ⟨k + 1, by omega, by go_num, HN⟩
      case measure => simp [intOf]; omega
    · have hd : decide ((k : Int) < (L.length : Int)) = false := by simp; omega
      obtain rfl : k = L.length := by omega
      rw [List.take_length] at HR
      clear H0
      go_wp2
      go_end0
      exact ⟨rfl, HR.out.1, HR.out.2.2.2⟩
set_option maxRecDepth 100000 in
set_option maxHeartbeats 2000000 in
theorem line_any (w : World) (b : Nat) (T s : Tx) (L : List Int) (v : Value) (h3 : 3 ≤ b) (h : Sh w b T) (hF : Fresh T) (hs : ∃ c : UInt8, s.getLast? = some c ∧ c ≠ 10) (hR : RdI w v L) (hI : ∀ z ∈ L, I64 z) (hT : Tb w) (hl : T.length + s.length + 22 * L.length ≤ 700000000) :
    Calls Tryd.prog 24 #[.pointer (some ⟨b, 0, none⟩), .string ⟨s.toArray⟩, v] w fun e w' => e = .returned (.tuple #[]) ∧ Sh w' b (T ++ (s ++ lst L ++ [10])) ∧ Fr b w w' := by
  have hW := word_new w b T s h hF (by omega)
  have HX := hide (And.intro h (And.intro hR (And.intro hT hI)))
  obtain ⟨a, c, rfl, hac⟩ := hR.len
  have HS := hide hs
  have h2 := lst_len hI
  clear h hF hR hI hT hs
  go_enter Tryd.func24, Tryd.ntmps24
  go_wp2_with fail
  refine hW.mono ?_
  rintro e w1 ⟨rfl, hS1, hF1⟩
  have hN := numbers_any w1 b (T ++ s) L _ h3 hS1 (Opn.app T HS.out) (HX.out.2.1.fr HX.out.1 hF1) HX.out.2.2.2 (HX.out.2.2.1.fr h3 hF1) (by rw [List.length_append]; omega)
  have HF1 := hide hF1
  clear hW hS1 hF1
  go_wp2_with fail
  refine hN.mono ?_
  rintro e w2 ⟨rfl, hS2, hF2⟩
  have hE := end_any w2 b _ hS2 (by rw [List.length_append, List.length_append]; omega)
  have HF2 := hide (HF1.out.trans hF2)
  clear hN hS2 hF2
  go_wp2_with fail
  refine hE.mono ?_
  rintro e w3 ⟨rfl, hS3, hF3⟩
  have HS3 := hide hS3
  have HF3 := hide (HF2.out.trans hF3)
  clear hS3 hF3 hE
  go_wp2
  go_end0
  refine ⟨rfl, ?_, HF3.out⟩
  have e : T ++ (s ++ lst L ++ [10]) = T ++ s ++ lst L ++ [10] := by simp
  rw [e]
  exact HS3.out
theorem all_nil : ∀ u ∈ ([] : List Int), I64 u := fun _ h => by cases h
theorem all_cons {z : Int} {L : List Int} (h : I64 z) (k : ∀ u ∈ L, I64 u) : ∀ u ∈ z :: L, I64 u := by
  simp only [List.forall_mem_cons]; exact ⟨h, k⟩
def fl (b : Bool) : Int := if b then 1 else 0
theorem fl64 (b : Bool) : I64 (fl b) := by cases b <;> constructor <;> decide
set_option maxHeartbeats 400000 in
theorem flag_any (w : World) (b : Bool) : Calls Tryd.prog 18 #[.bool b] w fun e w' => e = .returned (.int .i64 (fl b)) ∧ w' = w := by
  cases b
  · go_enter Tryd.func18, Tryd.ntmps18
    go_wp2
    go_ret
    exact ⟨rfl, rfl⟩
  · go_enter Tryd.func18, Tryd.ntmps18
    go_wp2
    go_ret
    exact ⟨rfl, rfl⟩
set_option maxHeartbeats 400000 in
theorem rflag_any (w : World) (b : Bool) : Calls Tryd.prog 10 #[.bool b] w fun e w' => e = .returned (.int .i64 (fl b)) ∧ w' = w := by
  cases b
  · go_enter Tryd.func10, Tryd.ntmps10
    go_wp2
    go_ret
    exact ⟨rfl, rfl⟩
  · go_enter Tryd.func10, Tryd.ntmps10
    go_wp2
    go_ret
    exact ⟨rfl, rfl⟩
set_option maxRecDepth 100000 in
set_option maxHeartbeats 2000000 in
theorem quota_any (w : World) (b : Nat) (T : Tx) (x y z : Int) (h3 : 3 ≤ b) (h : Sh w b T) (hF : Opn T) (hI : I64 x ∧ I64 y ∧ I64 z) (hT : Tb w) (hl : T.length ≤ 700000000) :
    Calls Tryd.prog 20 #[.pointer (some ⟨b, 0, none⟩), .agg #[.int .i64 x, .int .i64 y, .int .i64 z]] w fun e w' => e = .returned (.tuple #[]) ∧ Sh w' b (T ++ lst [x, y, z]) ∧ Fr b w w' := by
  have hbl := h.lt
  have hb1 : Below w.heap.size w (w.alloc (.cells #[.int .i64 x, .int .i64 y, .int .i64 z] 37)) := (Below.refl _ _).alloc (Nat.le_refl _) _
  have hb2 : Below w.heap.size w ((w.alloc (.cells #[.int .i64 x, .int .i64 y, .int .i64 z] 37)).alloc (.cells #[.int .i64 x, .int .i64 y, .int .i64 z] 3)) := hb1.alloc hb1.size _
  have hN := numbers_any ((w.alloc (.cells #[.int .i64 x, .int .i64 y, .int .i64 z] 37)).alloc (.cells #[.int .i64 x, .int .i64 y, .int .i64 z] 3)) b T [x, y, z] (.slice (some ⟨w.heap.size + 1, 0, none⟩) 3 3) h3 (h.up hb2) hF
    (by have := RdI.new (w.alloc (.cells #[.int .i64 x, .int .i64 y, .int .i64 z] 37)) [x, y, z] 3 3 rfl (Nat.le_refl _); simpa [In] using this) (all_cons hI.1 (all_cons hI.2.1 (all_cons hI.2.2 all_nil))) (hT.fr h3 (Fr.of hb2 (by omega))) (by simp; omega)
  have HF0 := hide (Fr.of (b := b) hb2 (by omega))
  clear hb1 hb2 h hF hI hT
  go_enter Tryd.func20, Tryd.ntmps20
  go_wp2_with fail
  refine hN.mono ?_
  rintro e w2 ⟨rfl, hS2, hF2⟩
  have HS2 := hide (And.intro hS2 (HF0.out.trans hF2))
  clear hS2 hF2 hN HF0
  go_wp2
  go_end0
  exact ⟨rfl, HS2.out⟩
end Go.Proofs.YtionncfpcbjchaaDoor
