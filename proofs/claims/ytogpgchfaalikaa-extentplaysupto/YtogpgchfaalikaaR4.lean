import Derived.Test.YtogpgchfaalikaaR3
namespace Go.Proofs.Ytogpgchfaalikaa
open Go.RowKit

theorem Rel.snoc {cl : List (Nat × Cl)} {C : Nat → Cl} (h : Rel cl C) {n : Nat} (hn : n < 32) (h0 : (C n).ho = 0) (s : Int) : Rel (cl ++ [(n, ⟨s, 1⟩)]) (put C n ⟨s, 1⟩) := by
  have key : ∀ (j k : Nat) (c : Cl), (cl ++ [(n, ⟨s, 1⟩)])[j]? = some (k, c) → (j = cl.length ∧ k = n ∧ c = ⟨s, 1⟩) ∨ (cl[j]? = some (k, c) ∧ k ≠ n) := by
    intro j k c hj
    by_cases hl : j < cl.length
    · rw [List.getElem?_append_left hl] at hj
      refine .inr ⟨hj, fun e => ?_⟩
      subst e
      obtain ⟨_, q2, q3⟩ := h.is j k c hj
      rw [q2] at h0; omega
    · have hjl := (List.getElem?_eq_some_iff.1 hj).1
      simp at hjl
      obtain rfl : j = cl.length := by omega
      simp at hj
      exact .inl ⟨rfl, hj.1.symm, hj.2.symm⟩
  refine ⟨fun j k c hj => ?_, fun k hk h1 => ?_, fun j j' k c d hj hj' => ?_⟩
  · rcases key j k c hj with ⟨_, rfl, rfl⟩ | ⟨hj2, hkn⟩
    · exact ⟨hn, put_same _ _ _, Nat.one_pos⟩
    · obtain ⟨q1, q2, q3⟩ := h.is j k c hj2
      exact ⟨q1, by rw [put_other _ _ hkn]; exact q2, q3⟩
  · by_cases e : k = n
    · subst e; exact ⟨cl.length, by rw [put_same]; simp⟩
    · rw [put_other _ _ e] at h1 ⊢
      obtain ⟨j, hj⟩ := h.has k hk h1
      exact ⟨j, by rw [List.getElem?_append_left (List.getElem?_eq_some_iff.1 hj).1]; exact hj⟩
  · rcases key j k c hj with ⟨e1, e3, _⟩ | ⟨hj2, hkn⟩ <;> rcases key j' k d hj' with ⟨e2, e4, _⟩ | ⟨hj3, hkn2⟩
    · rw [e1, e2]
    · exact absurd e3 hkn2
    · exact absurd e4 hkn
    · exact h.one j j' k c d hj2 hj3
theorem claims_app {w w2 : World} {K R N : Nat} {C : Nat → Cl} {F : Nat → Prop} {cv cv2 : Value} {cl : List (Nat × Cl)} {n : Nat} {s : Int} {o : Obj} (hT : TkAt w K R cv cl) (hRl : Rel cl C) (hlN : cl.length ≤ N) (he : ∀ b, F b ↔ b = K ∨ cv.ownBlock = some b)
    (hn : n < 32) (h0 : (C n).ho = 0) (ho : w2.ownsRow 0 39 3 cv2 (cl.length + 1) (encCs cl ++ encC (n, ⟨s, 1⟩))) (hg : (w.alloc o).grownBy w2 cv.ownBlock) (hloc : cv2.ownBlock = cv.ownBlock ∨ cv2.ownBlock = some (w.alloc o).heap.size) :
    ∃ F', TkA K R (put C n ⟨s, 1⟩) (N + 1) (w2.setCell ⟨K, 0, none⟩ cv2) F' ∧ Ext F w F' (w2.setCell ⟨K, 0, none⟩ cv2) := by
  have hKl := hT.lt
  have hKs : K < (w.alloc o).heap.size := by simp; omega
  have hK2 : w2.heap[K]? = some (.cells #[cv, .pointer (some ⟨R, 0, none⟩)] 99 (0, 0)) := by
    rw [hg.block K hKs (fun e => hT.ne e.symm), Below.heap_alloc _ _ _ hKl]; exact hT.top
  have hne2 : cv2.ownBlock ≠ some K := fun e => by
    rcases hloc with h | h
    · exact hT.ne (h ▸ e)
    · rw [h] at e; simp at e; omega
  refine ⟨fun b => b = K ∨ cv2.ownBlock = some b, ⟨cv2, cl ++ [(n, ⟨s, 1⟩)], ⟨?_, ?_, hne2⟩, hRl.snoc hn h0 s, by simp; omega, fun _ => Iff.rfl⟩, ⟨⟨hg.os, hg.tape, hg.output, ?_, fun b hb hf => ?_⟩, fun b hb => ?_⟩⟩
  · have := heap_setCell_same _ K 0 _ _ cv2 hK2
    rw [this]; rfl
  · rw [encCs_snoc, List.length_append]
    exact ownsRow_keep ho (fun b hb => heap_setCell_other _ _ _ _ (fun e => hne2 (by have e' : b = K := e; rw [← e']; exact hb)))
  · have := hg.size; simp [World.setCell] at this ⊢; omega
  · rw [heap_setCell_other _ _ _ _ (fun e => hf ((he b).2 (.inl e))), hg.block b (by simp; omega) (fun e => hf ((he b).2 (.inr e.symm))), Below.heap_alloc _ _ _ hb]
  · rcases hb with hb | hb
    · exact .inl ((he b).2 (.inl hb))
    · rcases hloc with h | h
      · exact .inl ((he b).2 (.inr (by rw [← h]; exact hb)))
      · rw [h] at hb; simp at hb; exact .inr (by omega)
section
variable {w : World} {K R N : Nat} {C : Nat → Cl} {F : Nat → Prop}
set_option maxRecDepth 100000 in
set_option maxHeartbeats 1600000 in
theorem claimK_free (h : TkA K R C N w F) (hN : N ≤ 2000000) (n : Nat) (hn : n < 32) (h0 : (C n).ho = 0) (s : Int) (hs : 1 ≤ s ∧ s ≤ 4611686018427387903) : Calls Try.prog 57 #[tp K, .int .i64 (n : Int), .int .i64 s] w fun e w' =>
    e = .returned (.tuple #[.int .i64 (n : Int), .int .i64 0]) ∧ ∃ F', TkA K R (put C n ⟨s, 1⟩) (N + 1) w' F' ∧ Ext F w F' w' := by
  obtain ⟨cv, cl, hT, hRl, hlN, he⟩ := h
  obtain ⟨i3, hi, hz, hs3, hb⟩ := info39
  obtain ⟨c0, _, f0⟩ := hT.cv0
  have HA := hide (at_no hT hRl (by omega) (z := (n : Int)) (by rw [isCl_nat C hn]; simp [h0]))
  obtain ⟨a, cp, hv⟩ := hT.shape
  have HF := hide (fun (w2 : World) (cv2 : Value) (o : Obj) => claims_app (w2 := w2) (cv2 := cv2) (s := s) (o := o) hT hRl hlN he hn h0)
  have hrow := hT.row
  have HKn : Hid (∀ (o : Obj) (w2 : World), (w.alloc o).grownBy w2 cv.ownBlock → w2.cell? ⟨K, 0, none⟩ = some cv ∧ w2.frozen? ⟨K, 0, none⟩ = false) := hide (fun o w2 hg => by
    have hK2 : w2.heap[K]? = some (.cells #[cv, .pointer (some ⟨R, 0, none⟩)] 99 (0, 0)) := by
      have := hT.lt
      rw [hg.block K (by simp; omega) (fun e => hT.ne e.symm), Below.heap_alloc _ _ _ hT.lt]; exact hT.top
    exact ⟨by rw [cell_of_row _ _ _ _ _ _ hK2]; rfl, frozen_of_row _ _ _ _ _ hK2⟩)
  have hd1 : decide (s < 1) = false := by simp; omega
  have hd2 : decide (4611686018427387903 < s) = false := by simp; omega
  have hd3 : ((n : Int) == -1) = false := by rw [beq_eq_false_iff_ne]; omega
  have hd4 : decide ((n : Int) < 0) = false := by simp
  have hd5 : decide (32 ≤ (n : Int)) = false := by simp; omega
  have hd6 : decide (32 ≤ n) = false := by simp; omega
  obtain ⟨L, hL⟩ : ∃ L, cl.length = L := ⟨_, rfl⟩
  rw [hL] at hv hrow
  have HL := hide hL
  have hLN : L ≤ 2000000 := by omega
  subst hv
  clear hT hRl he hL hlN
  go_enter Try.func57, Try.ntmps57
  go_wp2_with fail
  refine HA.out.mono ?_
  rintro e w1 ⟨rfl, rfl⟩
  go_upto_region 13 with fail
  have HW : Hid (∀ (cv2 : Value) (w2 : World), w2.ownsRow 0 39 3 cv2 (L + 1) (encCs cl ++ [.int .i64 (n : Int), .int .i64 s, .int .i64 1]) → (w1.alloc (.cells #[.int .i64 (n : Int), .int .i64 s, .int .i64 1] 39)).grownBy w2 (Value.slice a L cp).ownBlock → (cv2.ownBlock = (Value.slice a L cp).ownBlock ∨ cv2.ownBlock = some (w1.alloc (.cells #[.int .i64 (n : Int), .int .i64 s, .int .i64 1] 39)).heap.size) → ∃ F', TkA K R (put C n ⟨s, 1⟩) (N + 1) (w2.setCell ⟨K, 0, none⟩ cv2) F' ∧ Ext F w1 F' (w2.setCell ⟨K, 0, none⟩ cv2)) :=
    hide (fun cv2 w2 q1 q2 q3 => HF.out w2 cv2 _ (by rw [HL.out]; exact q1) q2 q3)
  clear HF
  go_upto_region 14 with (at_builtin; refine wpList_append_own_at _ rfl _ _ 36 rfl 0 39 i3 (.agg #[.int .i64 0, .int .i64 0, .int .i64 0]) 3 24 Try.underlying36 hi hz hs3 hb rfl (by decide) (.slice a L cp) L (encCs cl) rfl (hrow.alloc _) ⟨w1.heap.size, 0, none⟩ 1 1 [.int .i64 (n : Int), .int .i64 s, .int .i64 1] rfl rfl (cell_three_new _ _ _ _ _) (by simp [Value.oneCell']) (by unfold maxLen; omega) (by omega) (by omega) ?_; intro cv2 w2 ho2 hg2 _ hl2; obtain ⟨k0, k1⟩ := HKn.out _ w2 hg2; have HE := hide (HW.out cv2 w2 ho2 hg2 hl2); obtain ⟨a2, c2, rfl⟩ := own_shape ho2; clear ho2 hg2 hl2 HW)
  generalize w2.setCell ⟨K, 0, none⟩ (.slice a2 (L + 1) c2) = w3 at *
  go_wp2
  go_ret2
  exact ⟨rfl, HE.out⟩
end
end Go.Proofs.Ytogpgchfaalikaa
