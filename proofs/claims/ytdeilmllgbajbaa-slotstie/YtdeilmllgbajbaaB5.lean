import Derived.Test.YtdeilmllgbajbaaB4
namespace Go.Proofs.Ytdeilmllgbajbaa
open Go.RowKit

set_option maxHeartbeats 1600000 in
theorem cloneC_any (w : World) (b : Nat) (es : Array MapEntry) (clock : Nat) (hb : w.heap[b]? = some (.map es clock)) :
    Calls Try.prog 23 #[.map (some b)] w fun e w' => e = .returned (.map (some w.heap.size)) ∧ w' = w.alloc (.map es clock) := by
  have hq := fun w => run_eql_map_nil_sl (P := Try.prog) w 54 _ _ (some b) Try.underlying54
  go_enter Try.func23, Try.ntmps23
  go_wp2
  rw [run_callFunc_extern Try.func35 (by kernel_rfl) (by kernel_rfl) (by kernel_rfl) (e := Extern.MapsClone.clone) (by kernel_rfl), run_maps_clone_sl w 54 hb]
  simp only [Result.andThen]
  rw [Oper.upon_value]
  go_wp2
  rw [run_typeAssert_map_sl _ 54 _ _ _ _ Try.underlying54]
  simp only [Result.andThen]
  rw [Oper.upon_value]
  go_wp2
  go_ret
  exact ⟨rfl, rfl⟩
set_option maxHeartbeats 1600000 in
theorem cloneI_any (w : World) (b : Nat) (es : Array MapEntry) (clock : Nat) (hb : w.heap[b]? = some (.map es clock)) :
    Calls Try.prog 24 #[.map (some b)] w fun e w' => e = .returned (.map (some w.heap.size)) ∧ w' = w.alloc (.map es clock) := by
  have hq := fun w => run_eql_map_nil_sl (P := Try.prog) w 53 _ _ (some b) Try.underlying53
  go_enter Try.func24, Try.ntmps24
  go_wp2
  rw [run_callFunc_extern Try.func35 (by kernel_rfl) (by kernel_rfl) (by kernel_rfl) (e := Extern.MapsClone.clone) (by kernel_rfl), run_maps_clone_sl w 53 hb]
  simp only [Result.andThen]
  rw [Oper.upon_value]
  go_wp2
  rw [run_typeAssert_map_sl _ 53 _ _ _ _ Try.underlying53]
  simp only [Result.andThen]
  rw [Oper.upon_value]
  go_wp2
  go_ret
  exact ⟨rfl, rfl⟩
/-- a tie made of copies of the two maps of another -/
theorem Tie.turned {α β : Type} {S S' : TypeId} {KA : Cod α} {KB : Cod β} {w W : World} {F : Nat → Prop} {B r1 r2 : Nat} {ps : List (α × β)} (h : TieAt S KA KB w F B r1 r2 ps) {e1 e2 : Array MapEntry} {k1 k2 : Nat} (h1 : w.heap[r1]? = some (.map e1 k1)) (h2 : w.heap[r2]? = some (.map e2 k2)) {C n1 n2 : Nat}
    (hC : W.heap[C]? = some (.cells #[.map (some n2), .map (some n1)] S' (0, 0))) (g1 : W.heap[n1]? = some (.map e1 k1)) (g2 : W.heap[n2]? = some (.map e2 k2)) (d : n1 ≠ C ∧ n2 ≠ C ∧ n2 ≠ n1) (lo : w.heap.size ≤ C ∧ w.heap.size ≤ n1 ∧ w.heap.size ≤ n2) :
    ∃ F', Tie S' KB KA W F' C (ps.map Prod.swap) ∧ ∀ x, F' x → w.heap.size ≤ x := by
  have m1 : MapIs W n1 KA KB.enc ps := by
    obtain ⟨es, c, q1, q2⟩ := h.to
    rw [h1] at q1; cases q1
    exact ⟨_, _, g1, q2⟩
  have m2 : MapIs W n2 KB KA.enc (ps.map Prod.swap) := by
    obtain ⟨es, c, q1, q2⟩ := h.back
    rw [h2] at q1; cases q1
    exact ⟨_, _, g2, q2⟩
  refine ⟨fun x => x = C ∨ x = n1 ∨ x = n2, ⟨n2, n1, hC, m2, ?_, ?_, ?_, .inl rfl, .inr (.inr rfl), .inr (.inl rfl), d.2.1, d.1, d.2.2, ?_⟩, ?_⟩
  · rw [List.map_map]; simpa using m1
  · rw [swap_keys]; exact h.nd2
  · rw [List.map_map]; exact h.nd1
  · rintro x (rfl | rfl | rfl)
    · exact (Array.getElem?_eq_some_iff.1 hC).1
    · exact (Array.getElem?_eq_some_iff.1 g1).1
    · exact (Array.getElem?_eq_some_iff.1 g2).1
  · rintro x (rfl | rfl | rfl)
    · exact lo.1
    · exact lo.2.1
    · exact lo.2.2
set_option maxHeartbeats 1600000 in
theorem turnP_any (w : World) (F : Nat → Prop) (B : Nat) (ps : List (Int × Cl)) (h : Tie 56 KI64 KCl w F B ps) :
    Calls Try.prog 10 #[.pointer (some ⟨B, 0, none⟩)] w fun x w' => ∃ C F', x = .returned (.pointer (some ⟨C, 0, none⟩)) ∧ Tie 60 KCl KI64 w' F' C (ps.map Prod.swap) ∧ (∀ x, F' x → w.heap.size ≤ x) ∧ Below w.heap.size w w' := by
  obtain ⟨r1, r2, h⟩ := h
  have HT := hide h
  obtain ⟨e1, k1, m1, _⟩ := h.to
  obtain ⟨e2, k2, m2, _⟩ := h.back
  have l1 := h.lt _ h.f1
  have l2 := h.lt _ h.f2
  obtain ⟨c0, c1⟩ := h.cells
  have HKp : Hid (∀ W, Below w.heap.size w W → (W.cell? ⟨B, 0, none⟩ = some (.map (some r1)) ∧ W.cell? ⟨B, 1, none⟩ = some (.map (some r2))) ∧ W.heap[r1]? = some (.map e1 k1) ∧ W.heap[r2]? = some (.map e2 k2)) := hide (fun W hW => by
    obtain ⟨q0, q1⟩ := (h.keep hW.size (fun b hb => hW.block b (h.lt b hb))).cells
    exact ⟨⟨q0, q1⟩, (hW.block _ l1).trans m1, (hW.block _ l2).trans m2⟩)
  have HM := hide (And.intro m1 m2)
  have HB0 : Hid (Below w.heap.size w w.drew) := hide (Below.refl _ _).drew
  clear h l1 l2 m1 m2
  go_enter Try.func10, Try.ntmps10
  go_wp2
  go_region_held (fun W => W.cell? ⟨B, 0, none⟩ = some (.map (some r1)) ∧ W.cell? ⟨B, 1, none⟩ = some (.map (some r2)))
    (first | assumption | exact q9 _ | exact q8 | exact q7 | exact And.intro c0 c1)
    (first
      | (go_at_call 23; refine (cloneC_any _ r2 e2 k2 (HKp.out _ HB0.out).2.2).mono ?_; rintro e w1 ⟨rfl, hw1⟩
         have HW1 := hide hw1
         have HB1 : Hid (Below w.heap.size w w1) := hide (by rw [hw1]; exact HB0.out.alloc HB0.out.size _)
         have q7 := (HKp.out _ HB1.out).1
         clear hw1)
      | (go_at_call 24; refine (cloneI_any _ r1 e1 k1 (HKp.out _ HB1.out).2.1).mono ?_; rintro e w2 ⟨rfl, hw2⟩
         have HW2 := hide hw2
         have HB2 : Hid (Below w.heap.size w w2) := hide (by rw [hw2]; exact HB1.out.alloc HB1.out.size _)
         have q8 := (HKp.out _ HB2.out).1
         have q9 : ∀ o, (w2.alloc o).cell? ⟨B, 0, none⟩ = some (.map (some r1)) ∧ (w2.alloc o).cell? ⟨B, 1, none⟩ = some (.map (some r2)) := fun o => (HKp.out _ (HB2.out.alloc HB2.out.size _)).1
         clear hw2))
  go_wp2
  go_ret
  have s1 : w1.heap.size = w.heap.size + 1 := by rw [HW1.out, World.size_alloc]; rfl
  have s2 : w2.heap.size = w1.heap.size + 1 := by rw [HW2.out]; simp
  have g2 : w2.heap[w.heap.size]? = some (.map e2 k2) := by
    rw [HW2.out, Below.heap_alloc _ _ _ (by omega), HW1.out]; exact heap_alloc_new w.drew _
  have g1 : w2.heap[w1.heap.size]? = some (.map e1 k1) := by rw [HW2.out]; exact heap_alloc_new w1 _
  obtain ⟨F', h1, h2⟩ := Tie.turned (S' := 60) (W := w2.alloc (.cells #[.map (some w.heap.size), .map (some w1.heap.size)] 60)) HT.out HM.out.1 HM.out.2 (heap_alloc_new w2 _) ((Below.heap_alloc _ _ _ (by omega)).trans g1) ((Below.heap_alloc _ _ _ (by omega)).trans g2) ⟨by omega, by omega, by omega⟩ ⟨by omega, by omega, by omega⟩
  exact ⟨_, F', rfl, h1, h2, HB2.out.alloc HB2.out.size _⟩
set_option maxHeartbeats 1600000 in
theorem turnQ_any (w : World) (F : Nat → Prop) (B : Nat) (ps : List (Cl × Int)) (h : Tie 60 KCl KI64 w F B ps) :
    Calls Try.prog 13 #[.pointer (some ⟨B, 0, none⟩)] w fun x w' => ∃ C F', x = .returned (.pointer (some ⟨C, 0, none⟩)) ∧ Tie 56 KI64 KCl w' F' C (ps.map Prod.swap) ∧ (∀ x, F' x → w.heap.size ≤ x) ∧ Below w.heap.size w w' := by
  obtain ⟨r1, r2, h⟩ := h
  have HT := hide h
  obtain ⟨e1, k1, m1, _⟩ := h.to
  obtain ⟨e2, k2, m2, _⟩ := h.back
  have l1 := h.lt _ h.f1
  have l2 := h.lt _ h.f2
  obtain ⟨c0, c1⟩ := h.cells
  have HKp : Hid (∀ W, Below w.heap.size w W → (W.cell? ⟨B, 0, none⟩ = some (.map (some r1)) ∧ W.cell? ⟨B, 1, none⟩ = some (.map (some r2))) ∧ W.heap[r1]? = some (.map e1 k1) ∧ W.heap[r2]? = some (.map e2 k2)) := hide (fun W hW => by
    obtain ⟨q0, q1⟩ := (h.keep hW.size (fun b hb => hW.block b (h.lt b hb))).cells
    exact ⟨⟨q0, q1⟩, (hW.block _ l1).trans m1, (hW.block _ l2).trans m2⟩)
  have HM := hide (And.intro m1 m2)
  have HB0 : Hid (Below w.heap.size w w.drew) := hide (Below.refl _ _).drew
  clear h l1 l2 m1 m2
  go_enter Try.func13, Try.ntmps13
  go_wp2
  go_region_held (fun W => W.cell? ⟨B, 0, none⟩ = some (.map (some r1)) ∧ W.cell? ⟨B, 1, none⟩ = some (.map (some r2)))
    (first | assumption | exact q9 _ | exact q8 | exact q7 | exact And.intro c0 c1)
    (first
      | (go_at_call 24; refine (cloneI_any _ r2 e2 k2 (HKp.out _ HB0.out).2.2).mono ?_; rintro e w1 ⟨rfl, hw1⟩
         have HW1 := hide hw1
         have HB1 : Hid (Below w.heap.size w w1) := hide (by rw [hw1]; exact HB0.out.alloc HB0.out.size _)
         have q7 := (HKp.out _ HB1.out).1
         clear hw1)
      | (go_at_call 23; refine (cloneC_any _ r1 e1 k1 (HKp.out _ HB1.out).2.1).mono ?_; rintro e w2 ⟨rfl, hw2⟩
         have HW2 := hide hw2
         have HB2 : Hid (Below w.heap.size w w2) := hide (by rw [hw2]; exact HB1.out.alloc HB1.out.size _)
         have q8 := (HKp.out _ HB2.out).1
         have q9 : ∀ o, (w2.alloc o).cell? ⟨B, 0, none⟩ = some (.map (some r1)) ∧ (w2.alloc o).cell? ⟨B, 1, none⟩ = some (.map (some r2)) := fun o => (HKp.out _ (HB2.out.alloc HB2.out.size _)).1
         clear hw2))
  go_wp2
  go_ret
  have s1 : w1.heap.size = w.heap.size + 1 := by rw [HW1.out, World.size_alloc]; rfl
  have s2 : w2.heap.size = w1.heap.size + 1 := by rw [HW2.out]; simp
  have g2 : w2.heap[w.heap.size]? = some (.map e2 k2) := by
    rw [HW2.out, Below.heap_alloc _ _ _ (by omega), HW1.out]; exact heap_alloc_new w.drew _
  have g1 : w2.heap[w1.heap.size]? = some (.map e1 k1) := by rw [HW2.out]; exact heap_alloc_new w1 _
  obtain ⟨F', h1, h2⟩ := Tie.turned (S' := 56) (W := w2.alloc (.cells #[.map (some w.heap.size), .map (some w1.heap.size)] 56)) HT.out HM.out.1 HM.out.2 (heap_alloc_new w2 _) ((Below.heap_alloc _ _ _ (by omega)).trans g1) ((Below.heap_alloc _ _ _ (by omega)).trans g2) ⟨by omega, by omega, by omega⟩ ⟨by omega, by omega, by omega⟩
  exact ⟨_, F', rfl, h1, h2, HB2.out.alloc HB2.out.size _⟩
end Go.Proofs.Ytdeilmllgbajbaa
