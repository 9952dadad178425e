import Derived.Test.YtfonenigkjngoaaDoorK1
namespace Go.Proofs.YtfonenigkjngoaaDoor
open Go.RowKit
set_option linter.unusedVariables false
theorem isI_nil : isI ⟨0, 0, 0, 0⟩ = false := by decide
section
variable (w : World)
set_option maxRecDepth 100000 in
set_option maxHeartbeats 2000000 in
theorem back_00 (n u : Nat) (op a b m oop oa ob oi : Int) (hO : Ops w)
    (hd1 : ∀ w, Ops w → Calls Tryd.prog 11 #[.int .u32 (n : Nat)] w fun e w' => e = .returned (.tuple #[.agg #[.int .i64 0, .int .i64 0, .int .i64 0, .int .i64 0], .int .i64 70]) ∧ Below w.heap.size w w')
    (he1 : ∀ w, Ops w → Calls Tryd.prog 8 #[.agg #[.int .i64 0, .int .i64 0, .int .i64 0, .int .i64 0]] w fun e w' => e = .returned (.tuple #[.int .u32 0, .int .i64 70]) ∧ Below w.heap.size w w')
    (he2 : ∀ w, Ops w → Calls Tryd.prog 8 #[.agg #[.int .i64 op, .int .i64 a, .int .i64 b, .int .i64 m]] w fun e w' => e = .returned (.tuple #[.int .u32 0, .int .i64 70]) ∧ Below w.heap.size w w')
    (hd2 : ∀ w, Ops w → Calls Tryd.prog 11 #[.int .u32 0] w fun e w' => e = .returned (.tuple #[.agg #[.int .i64 0, .int .i64 0, .int .i64 0, .int .i64 0], .int .i64 70]) ∧ Below w.heap.size w w') :
    Calls Tryd.prog 4 #[.int .u32 (n : Nat), .agg #[.int .i64 op, .int .i64 a, .int .i64 b, .int .i64 m]] w fun e w' => e = .returned (.bool true) ∧ Below w.heap.size w w' := by
  have HO := hide (hO.below (bel1 w (.cells #[.int .i64 op, .int .i64 a, .int .i64 b, .int .i64 m] 23)))
  clear hO
  go_enter Tryd.func4, Tryd.ntmps4
  go_wp2_with fail
  refine (known_any _ HO.out).mono ?_
  rintro e w1 ⟨rfl, hb⟩
  have HB1 := hide ((bel1 w _).trans (hb.mono (by simp)))
  have HO1 := hide (HO.out.below hb)
  have q0 : w1.heap[w.heap.size]? = some (.cells #[.int .i64 op, .int .i64 a, .int .i64 b, .int .i64 m] 23 (0, 0)) := by rw [hb.block _ (by simp)]; exact heap_alloc_last _ _
  clear hb HO
  obtain ⟨N, hN⟩ : ∃ N, w.heap.size = N := ⟨_, rfl⟩
  have HN := hide hN
  rw [hN] at q0 ⊢
  clear hN
  go_wp2_with fail
  refine (hd1 _ HO1.out).mono ?_
  rintro e w2 ⟨rfl, hb⟩
  have HB2 := hide (HB1.out.trans (hb.mono HB1.out.size))
  have q2 : w2.heap[N]? = some (.cells #[.int .i64 op, .int .i64 a, .int .i64 b, .int .i64 m] 23 (0, 0)) := by rw [hb.block _ (Array.getElem?_eq_some_iff.1 q0).1]; exact q0
  have HO2 := hide ((HO1.out.below hb).below (bel1 w2 (.cells #[.int .i64 0, .int .i64 0, .int .i64 0, .int .i64 0] 23)))
  clear hb HO1 HB1 q0 hd1
  go_wp2_with fail
  refine (he1 _ HO2.out).mono ?_
  rintro e w3 ⟨rfl, hb⟩
  have HB3 := hide (HB2.out.trans (((bel1 w2 (.cells #[.int .i64 0, .int .i64 0, .int .i64 0, .int .i64 0] 23)).trans (hb.mono (by simp))).mono HB2.out.size))
  have HO3 := hide (HO2.out.below hb)
  have q3 : w3.heap[N]? = some (.cells #[.int .i64 op, .int .i64 a, .int .i64 b, .int .i64 m] 23 (0, 0)) := by
    have hlt := (Array.getElem?_eq_some_iff.1 q2).1
    rw [hb.block _ (by simp; omega), (bel1 w2 _).block _ hlt]; exact q2
  have q4 : w3.heap[w2.heap.size]? = some (.cells #[.int .i64 0, .int .i64 0, .int .i64 0, .int .i64 0] 23 (0, 0)) := by rw [hb.block _ (by simp)]; exact heap_alloc_last _ _
  clear hb HO2 HB2 q2 he1
  have c0 : w3.cell? ⟨N, 0, none⟩ = some (.int .i64 op) := by rw [cell_of_row _ _ _ _ _ _ q3]; rfl
  have c1 : w3.cell? ⟨N, 1, none⟩ = some (.int .i64 a) := by rw [cell_of_row _ _ _ _ _ _ q3]; rfl
  have c2 : w3.cell? ⟨N, 2, none⟩ = some (.int .i64 b) := by rw [cell_of_row _ _ _ _ _ _ q3]; rfl
  have c3 : w3.cell? ⟨N, 3, none⟩ = some (.int .i64 m) := by rw [cell_of_row _ _ _ _ _ _ q3]; rfl
  have d0 := cell_of_row w3 _ 0 _ _ _ q4
  have d1 := cell_of_row w3 _ 1 _ _ _ q4
  have d2 := cell_of_row w3 _ 2 _ _ _ q4
  have d3 := cell_of_row w3 _ 3 _ _ _ q4
  simp only [List.getElem?_toArray, List.getElem?_cons_zero, List.getElem?_cons_succ] at d0 d1 d2 d3
  have Q3 := hide q3
  clear q3 q4
  go_wp2_with fail
  refine (he2 _ HO3.out).mono ?_
  rintro e w4 ⟨rfl, hb⟩
  have HB4 := hide (HB3.out.trans (hb.mono HB3.out.size))
  have HO4 := hide (HO3.out.below hb)
  have Q4 : Hid (w4.heap[N]? = some (.cells #[.int .i64 op, .int .i64 a, .int .i64 b, .int .i64 m] 23 (0, 0))) := by apply hide; rw [hb.block _ (Array.getElem?_eq_some_iff.1 Q3.out).1]; exact Q3.out
  clear hb HO3 HB3 Q3 he2 c0 c1 c2 c3 d0 d1 d2 d3
  go_wp2_with fail
  refine (hd2 _ HO4.out).mono ?_
  rintro e w5 ⟨rfl, hb⟩
  have HB5 := hide (HB4.out.trans (hb.mono HB4.out.size))
  have q5 : w5.heap[N]? = some (.cells #[.int .i64 op, .int .i64 a, .int .i64 b, .int .i64 m] 23 (0, 0)) := by rw [hb.block _ (Array.getElem?_eq_some_iff.1 Q4.out).1]; exact Q4.out
  have hlt : N < w5.heap.size := (Array.getElem?_eq_some_iff.1 q5).1
  clear hb HO4 HB4 Q4 hd2
  have c0 : w5.cell? ⟨N, 0, none⟩ = some (.int .i64 op) := by rw [cell_of_row _ _ _ _ _ _ q5]; rfl
  have c1 : w5.cell? ⟨N, 1, none⟩ = some (.int .i64 a) := by rw [cell_of_row _ _ _ _ _ _ q5]; rfl
  have c2 : w5.cell? ⟨N, 2, none⟩ = some (.int .i64 b) := by rw [cell_of_row _ _ _ _ _ _ q5]; rfl
  have c3 : w5.cell? ⟨N, 3, none⟩ = some (.int .i64 m) := by rw [cell_of_row _ _ _ _ _ _ q5]; rfl
  clear q5
  go_wp2
  go_ret
  exact ⟨rfl, HB5.out.alloc HB5.out.size _⟩
set_option maxRecDepth 100000 in
set_option maxHeartbeats 2000000 in
theorem back_01 (n u : Nat) (op a b m oop oa ob oi : Int) (hO : Ops w)
    (hd1 : ∀ w, Ops w → Calls Tryd.prog 11 #[.int .u32 (n : Nat)] w fun e w' => e = .returned (.tuple #[.agg #[.int .i64 0, .int .i64 0, .int .i64 0, .int .i64 0], .int .i64 70]) ∧ Below w.heap.size w w')
    (he1 : ∀ w, Ops w → Calls Tryd.prog 8 #[.agg #[.int .i64 0, .int .i64 0, .int .i64 0, .int .i64 0]] w fun e w' => e = .returned (.tuple #[.int .u32 0, .int .i64 70]) ∧ Below w.heap.size w w')
    (he2 : ∀ w, Ops w → Calls Tryd.prog 8 #[.agg #[.int .i64 op, .int .i64 a, .int .i64 b, .int .i64 m]] w fun e w' => e = .returned (.tuple #[.int .u32 (u : Nat), .int .i64 0]) ∧ Below w.heap.size w w')
    (hd2 : ∀ w, Ops w → Calls Tryd.prog 11 #[.int .u32 (u : Nat)] w fun e w' => e = .returned (.tuple #[.agg #[.int .i64 op, .int .i64 a, .int .i64 b, .int .i64 m], .int .i64 0]) ∧ Below w.heap.size w w') :
    Calls Tryd.prog 4 #[.int .u32 (n : Nat), .agg #[.int .i64 op, .int .i64 a, .int .i64 b, .int .i64 m]] w fun e w' => e = .returned (.bool true) ∧ Below w.heap.size w w' := by
  have HO := hide (hO.below (bel1 w (.cells #[.int .i64 op, .int .i64 a, .int .i64 b, .int .i64 m] 23)))
  clear hO
  go_enter Tryd.func4, Tryd.ntmps4
  go_wp2_with fail
  refine (known_any _ HO.out).mono ?_
  rintro e w1 ⟨rfl, hb⟩
  have HB1 := hide ((bel1 w _).trans (hb.mono (by simp)))
  have HO1 := hide (HO.out.below hb)
  have q0 : w1.heap[w.heap.size]? = some (.cells #[.int .i64 op, .int .i64 a, .int .i64 b, .int .i64 m] 23 (0, 0)) := by rw [hb.block _ (by simp)]; exact heap_alloc_last _ _
  clear hb HO
  obtain ⟨N, hN⟩ : ∃ N, w.heap.size = N := ⟨_, rfl⟩
  have HN := hide hN
  rw [hN] at q0 ⊢
  clear hN
  go_wp2_with fail
  refine (hd1 _ HO1.out).mono ?_
  rintro e w2 ⟨rfl, hb⟩
  have HB2 := hide (HB1.out.trans (hb.mono HB1.out.size))
  have q2 : w2.heap[N]? = some (.cells #[.int .i64 op, .int .i64 a, .int .i64 b, .int .i64 m] 23 (0, 0)) := by rw [hb.block _ (Array.getElem?_eq_some_iff.1 q0).1]; exact q0
  have HO2 := hide ((HO1.out.below hb).below (bel1 w2 (.cells #[.int .i64 0, .int .i64 0, .int .i64 0, .int .i64 0] 23)))
  clear hb HO1 HB1 q0 hd1
  go_wp2_with fail
  refine (he1 _ HO2.out).mono ?_
  rintro e w3 ⟨rfl, hb⟩
  have HB3 := hide (HB2.out.trans (((bel1 w2 (.cells #[.int .i64 0, .int .i64 0, .int .i64 0, .int .i64 0] 23)).trans (hb.mono (by simp))).mono HB2.out.size))
  have HO3 := hide (HO2.out.below hb)
  have q3 : w3.heap[N]? = some (.cells #[.int .i64 op, .int .i64 a, .int .i64 b, .int .i64 m] 23 (0, 0)) := by
    have hlt := (Array.getElem?_eq_some_iff.1 q2).1
    rw [hb.block _ (by simp; omega), (bel1 w2 _).block _ hlt]; exact q2
  have q4 : w3.heap[w2.heap.size]? = some (.cells #[.int .i64 0, .int .i64 0, .int .i64 0, .int .i64 0] 23 (0, 0)) := by rw [hb.block _ (by simp)]; exact heap_alloc_last _ _
  clear hb HO2 HB2 q2 he1
  have c0 : w3.cell? ⟨N, 0, none⟩ = some (.int .i64 op) := by rw [cell_of_row _ _ _ _ _ _ q3]; rfl
  have c1 : w3.cell? ⟨N, 1, none⟩ = some (.int .i64 a) := by rw [cell_of_row _ _ _ _ _ _ q3]; rfl
  have c2 : w3.cell? ⟨N, 2, none⟩ = some (.int .i64 b) := by rw [cell_of_row _ _ _ _ _ _ q3]; rfl
  have c3 : w3.cell? ⟨N, 3, none⟩ = some (.int .i64 m) := by rw [cell_of_row _ _ _ _ _ _ q3]; rfl
  have d0 := cell_of_row w3 _ 0 _ _ _ q4
  have d1 := cell_of_row w3 _ 1 _ _ _ q4
  have d2 := cell_of_row w3 _ 2 _ _ _ q4
  have d3 := cell_of_row w3 _ 3 _ _ _ q4
  simp only [List.getElem?_toArray, List.getElem?_cons_zero, List.getElem?_cons_succ] at d0 d1 d2 d3
  have Q3 := hide q3
  clear q3 q4
  go_wp2_with fail
  refine (he2 _ HO3.out).mono ?_
  rintro e w4 ⟨rfl, hb⟩
  have HB4 := hide (HB3.out.trans (hb.mono HB3.out.size))
  have HO4 := hide (HO3.out.below hb)
  have Q4 : Hid (w4.heap[N]? = some (.cells #[.int .i64 op, .int .i64 a, .int .i64 b, .int .i64 m] 23 (0, 0))) := by apply hide; rw [hb.block _ (Array.getElem?_eq_some_iff.1 Q3.out).1]; exact Q3.out
  clear hb HO3 HB3 Q3 he2 c0 c1 c2 c3 d0 d1 d2 d3
  go_wp2_with fail
  refine (hd2 _ HO4.out).mono ?_
  rintro e w5 ⟨rfl, hb⟩
  have HB5 := hide (HB4.out.trans (hb.mono HB4.out.size))
  have q5 : w5.heap[N]? = some (.cells #[.int .i64 op, .int .i64 a, .int .i64 b, .int .i64 m] 23 (0, 0)) := by rw [hb.block _ (Array.getElem?_eq_some_iff.1 Q4.out).1]; exact Q4.out
  have hlt : N < w5.heap.size := (Array.getElem?_eq_some_iff.1 q5).1
  clear hb HO4 HB4 Q4 hd2
  have c0 : w5.cell? ⟨N, 0, none⟩ = some (.int .i64 op) := by rw [cell_of_row _ _ _ _ _ _ q5]; rfl
  have c1 : w5.cell? ⟨N, 1, none⟩ = some (.int .i64 a) := by rw [cell_of_row _ _ _ _ _ _ q5]; rfl
  have c2 : w5.cell? ⟨N, 2, none⟩ = some (.int .i64 b) := by rw [cell_of_row _ _ _ _ _ _ q5]; rfl
  have c3 : w5.cell? ⟨N, 3, none⟩ = some (.int .i64 m) := by rw [cell_of_row _ _ _ _ _ _ q5]; rfl
  clear q5
  go_wp2
  go_ret
  exact ⟨rfl, HB5.out.alloc HB5.out.size _⟩
set_option maxRecDepth 100000 in
set_option maxHeartbeats 2000000 in
theorem back_10 (n u : Nat) (op a b m oop oa ob oi : Int) (ho1 : 1 ≤ oop) (ho2 : oop < 27) (hO : Ops w)
    (hd1 : ∀ w, Ops w → Calls Tryd.prog 11 #[.int .u32 (n : Nat)] w fun e w' => e = .returned (.tuple #[.agg #[.int .i64 oop, .int .i64 oa, .int .i64 ob, .int .i64 oi], .int .i64 0]) ∧ Below w.heap.size w w')
    (he1 : ∀ w, Ops w → Calls Tryd.prog 8 #[.agg #[.int .i64 oop, .int .i64 oa, .int .i64 ob, .int .i64 oi]] w fun e w' => e = .returned (.tuple #[.int .u32 (n : Nat), .int .i64 0]) ∧ Below w.heap.size w w')
    (he2 : ∀ w, Ops w → Calls Tryd.prog 8 #[.agg #[.int .i64 op, .int .i64 a, .int .i64 b, .int .i64 m]] w fun e w' => e = .returned (.tuple #[.int .u32 0, .int .i64 70]) ∧ Below w.heap.size w w')
    (hd2 : ∀ w, Ops w → Calls Tryd.prog 11 #[.int .u32 0] w fun e w' => e = .returned (.tuple #[.agg #[.int .i64 0, .int .i64 0, .int .i64 0, .int .i64 0], .int .i64 70]) ∧ Below w.heap.size w w') :
    Calls Tryd.prog 4 #[.int .u32 (n : Nat), .agg #[.int .i64 op, .int .i64 a, .int .i64 b, .int .i64 m]] w fun e w' => e = .returned (.bool true) ∧ Below w.heap.size w w' := by
  have HO := hide (hO.below (bel1 w (.cells #[.int .i64 op, .int .i64 a, .int .i64 b, .int .i64 m] 23)))
  clear hO
  go_enter Tryd.func4, Tryd.ntmps4
  go_wp2_with fail
  refine (known_any _ HO.out).mono ?_
  rintro e w1 ⟨rfl, hb⟩
  have HB1 := hide ((bel1 w _).trans (hb.mono (by simp)))
  have HO1 := hide (HO.out.below hb)
  have q0 : w1.heap[w.heap.size]? = some (.cells #[.int .i64 op, .int .i64 a, .int .i64 b, .int .i64 m] 23 (0, 0)) := by rw [hb.block _ (by simp)]; exact heap_alloc_last _ _
  clear hb HO
  obtain ⟨N, hN⟩ : ∃ N, w.heap.size = N := ⟨_, rfl⟩
  have HN := hide hN
  rw [hN] at q0 ⊢
  clear hN
  go_wp2_with fail
  refine (hd1 _ HO1.out).mono ?_
  rintro e w2 ⟨rfl, hb⟩
  have HB2 := hide (HB1.out.trans (hb.mono HB1.out.size))
  have q2 : w2.heap[N]? = some (.cells #[.int .i64 op, .int .i64 a, .int .i64 b, .int .i64 m] 23 (0, 0)) := by rw [hb.block _ (Array.getElem?_eq_some_iff.1 q0).1]; exact q0
  have HO2 := hide ((HO1.out.below hb).below (bel1 w2 (.cells #[.int .i64 oop, .int .i64 oa, .int .i64 ob, .int .i64 oi] 23)))
  clear hb HO1 HB1 q0 hd1
  go_wp2_with fail
  refine (he1 _ HO2.out).mono ?_
  rintro e w3 ⟨rfl, hb⟩
  have HB3 := hide (HB2.out.trans (((bel1 w2 (.cells #[.int .i64 oop, .int .i64 oa, .int .i64 ob, .int .i64 oi] 23)).trans (hb.mono (by simp))).mono HB2.out.size))
  have HO3 := hide (HO2.out.below hb)
  have q3 : w3.heap[N]? = some (.cells #[.int .i64 op, .int .i64 a, .int .i64 b, .int .i64 m] 23 (0, 0)) := by
    have hlt := (Array.getElem?_eq_some_iff.1 q2).1
    rw [hb.block _ (by simp; omega), (bel1 w2 _).block _ hlt]; exact q2
  have q4 : w3.heap[w2.heap.size]? = some (.cells #[.int .i64 oop, .int .i64 oa, .int .i64 ob, .int .i64 oi] 23 (0, 0)) := by rw [hb.block _ (by simp)]; exact heap_alloc_last _ _
  clear hb HO2 HB2 q2 he1
  have c0 : w3.cell? ⟨N, 0, none⟩ = some (.int .i64 op) := by rw [cell_of_row _ _ _ _ _ _ q3]; rfl
  have c1 : w3.cell? ⟨N, 1, none⟩ = some (.int .i64 a) := by rw [cell_of_row _ _ _ _ _ _ q3]; rfl
  have c2 : w3.cell? ⟨N, 2, none⟩ = some (.int .i64 b) := by rw [cell_of_row _ _ _ _ _ _ q3]; rfl
  have c3 : w3.cell? ⟨N, 3, none⟩ = some (.int .i64 m) := by rw [cell_of_row _ _ _ _ _ _ q3]; rfl
  have d0 := cell_of_row w3 _ 0 _ _ _ q4
  have d1 := cell_of_row w3 _ 1 _ _ _ q4
  have d2 := cell_of_row w3 _ 2 _ _ _ q4
  have d3 := cell_of_row w3 _ 3 _ _ _ q4
  simp only [List.getElem?_toArray, List.getElem?_cons_zero, List.getElem?_cons_succ] at d0 d1 d2 d3
  have Q3 := hide q3
  clear q3 q4
  go_wp2_with fail
  refine (he2 _ HO3.out).mono ?_
  rintro e w4 ⟨rfl, hb⟩
  have HB4 := hide (HB3.out.trans (hb.mono HB3.out.size))
  have HO4 := hide (HO3.out.below hb)
  have Q4 : Hid (w4.heap[N]? = some (.cells #[.int .i64 op, .int .i64 a, .int .i64 b, .int .i64 m] 23 (0, 0))) := by apply hide; rw [hb.block _ (Array.getElem?_eq_some_iff.1 Q3.out).1]; exact Q3.out
  clear hb HO3 HB3 Q3 he2 c0 c1 c2 c3 d0 d1 d2 d3
  go_wp2_with fail
  refine (hd2 _ HO4.out).mono ?_
  rintro e w5 ⟨rfl, hb⟩
  have HB5 := hide (HB4.out.trans (hb.mono HB4.out.size))
  have q5 : w5.heap[N]? = some (.cells #[.int .i64 op, .int .i64 a, .int .i64 b, .int .i64 m] 23 (0, 0)) := by rw [hb.block _ (Array.getElem?_eq_some_iff.1 Q4.out).1]; exact Q4.out
  have hlt : N < w5.heap.size := (Array.getElem?_eq_some_iff.1 q5).1
  clear hb HO4 HB4 Q4 hd2
  have c0 : w5.cell? ⟨N, 0, none⟩ = some (.int .i64 op) := by rw [cell_of_row _ _ _ _ _ _ q5]; rfl
  have c1 : w5.cell? ⟨N, 1, none⟩ = some (.int .i64 a) := by rw [cell_of_row _ _ _ _ _ _ q5]; rfl
  have c2 : w5.cell? ⟨N, 2, none⟩ = some (.int .i64 b) := by rw [cell_of_row _ _ _ _ _ _ q5]; rfl
  have c3 : w5.cell? ⟨N, 3, none⟩ = some (.int .i64 m) := by rw [cell_of_row _ _ _ _ _ _ q5]; rfl
  clear q5
  go_wp2
  go_ret
  exact ⟨rfl, HB5.out.alloc HB5.out.size _⟩
set_option maxRecDepth 100000 in
set_option maxHeartbeats 2000000 in
theorem back_11 (n u : Nat) (op a b m oop oa ob oi : Int) (ho1 : 1 ≤ oop) (ho2 : oop < 27) (hO : Ops w)
    (hd1 : ∀ w, Ops w → Calls Tryd.prog 11 #[.int .u32 (n : Nat)] w fun e w' => e = .returned (.tuple #[.agg #[.int .i64 oop, .int .i64 oa, .int .i64 ob, .int .i64 oi], .int .i64 0]) ∧ Below w.heap.size w w')
    (he1 : ∀ w, Ops w → Calls Tryd.prog 8 #[.agg #[.int .i64 oop, .int .i64 oa, .int .i64 ob, .int .i64 oi]] w fun e w' => e = .returned (.tuple #[.int .u32 (n : Nat), .int .i64 0]) ∧ Below w.heap.size w w')
    (he2 : ∀ w, Ops w → Calls Tryd.prog 8 #[.agg #[.int .i64 op, .int .i64 a, .int .i64 b, .int .i64 m]] w fun e w' => e = .returned (.tuple #[.int .u32 (u : Nat), .int .i64 0]) ∧ Below w.heap.size w w')
    (hd2 : ∀ w, Ops w → Calls Tryd.prog 11 #[.int .u32 (u : Nat)] w fun e w' => e = .returned (.tuple #[.agg #[.int .i64 op, .int .i64 a, .int .i64 b, .int .i64 m], .int .i64 0]) ∧ Below w.heap.size w w') :
    Calls Tryd.prog 4 #[.int .u32 (n : Nat), .agg #[.int .i64 op, .int .i64 a, .int .i64 b, .int .i64 m]] w fun e w' => e = .returned (.bool true) ∧ Below w.heap.size w w' := by
  have HO := hide (hO.below (bel1 w (.cells #[.int .i64 op, .int .i64 a, .int .i64 b, .int .i64 m] 23)))
  clear hO
  go_enter Tryd.func4, Tryd.ntmps4
  go_wp2_with fail
  refine (known_any _ HO.out).mono ?_
  rintro e w1 ⟨rfl, hb⟩
  have HB1 := hide ((bel1 w _).trans (hb.mono (by simp)))
  have HO1 := hide (HO.out.below hb)
  have q0 : w1.heap[w.heap.size]? = some (.cells #[.int .i64 op, .int .i64 a, .int .i64 b, .int .i64 m] 23 (0, 0)) := by rw [hb.block _ (by simp)]; exact heap_alloc_last _ _
  clear hb HO
  obtain ⟨N, hN⟩ : ∃ N, w.heap.size = N := ⟨_, rfl⟩
  have HN := hide hN
  rw [hN] at q0 ⊢
  clear hN
  go_wp2_with fail
  refine (hd1 _ HO1.out).mono ?_
  rintro e w2 ⟨rfl, hb⟩
  have HB2 := hide (HB1.out.trans (hb.mono HB1.out.size))
  have q2 : w2.heap[N]? = some (.cells #[.int .i64 op, .int .i64 a, .int .i64 b, .int .i64 m] 23 (0, 0)) := by rw [hb.block _ (Array.getElem?_eq_some_iff.1 q0).1]; exact q0
  have HO2 := hide ((HO1.out.below hb).below (bel1 w2 (.cells #[.int .i64 oop, .int .i64 oa, .int .i64 ob, .int .i64 oi] 23)))
  clear hb HO1 HB1 q0 hd1
  go_wp2_with fail
  refine (he1 _ HO2.out).mono ?_
  rintro e w3 ⟨rfl, hb⟩
  have HB3 := hide (HB2.out.trans (((bel1 w2 (.cells #[.int .i64 oop, .int .i64 oa, .int .i64 ob, .int .i64 oi] 23)).trans (hb.mono (by simp))).mono HB2.out.size))
  have HO3 := hide (HO2.out.below hb)
  have q3 : w3.heap[N]? = some (.cells #[.int .i64 op, .int .i64 a, .int .i64 b, .int .i64 m] 23 (0, 0)) := by
    have hlt := (Array.getElem?_eq_some_iff.1 q2).1
    rw [hb.block _ (by simp; omega), (bel1 w2 _).block _ hlt]; exact q2
  have q4 : w3.heap[w2.heap.size]? = some (.cells #[.int .i64 oop, .int .i64 oa, .int .i64 ob, .int .i64 oi] 23 (0, 0)) := by rw [hb.block _ (by simp)]; exact heap_alloc_last _ _
  clear hb HO2 HB2 q2 he1
  have c0 : w3.cell? ⟨N, 0, none⟩ = some (.int .i64 op) := by rw [cell_of_row _ _ _ _ _ _ q3]; rfl
  have c1 : w3.cell? ⟨N, 1, none⟩ = some (.int .i64 a) := by rw [cell_of_row _ _ _ _ _ _ q3]; rfl
  have c2 : w3.cell? ⟨N, 2, none⟩ = some (.int .i64 b) := by rw [cell_of_row _ _ _ _ _ _ q3]; rfl
  have c3 : w3.cell? ⟨N, 3, none⟩ = some (.int .i64 m) := by rw [cell_of_row _ _ _ _ _ _ q3]; rfl
  have d0 := cell_of_row w3 _ 0 _ _ _ q4
  have d1 := cell_of_row w3 _ 1 _ _ _ q4
  have d2 := cell_of_row w3 _ 2 _ _ _ q4
  have d3 := cell_of_row w3 _ 3 _ _ _ q4
  simp only [List.getElem?_toArray, List.getElem?_cons_zero, List.getElem?_cons_succ] at d0 d1 d2 d3
  have Q3 := hide q3
  clear q3 q4
  go_wp2_with fail
  refine (he2 _ HO3.out).mono ?_
  rintro e w4 ⟨rfl, hb⟩
  have HB4 := hide (HB3.out.trans (hb.mono HB3.out.size))
  have HO4 := hide (HO3.out.below hb)
  have Q4 : Hid (w4.heap[N]? = some (.cells #[.int .i64 op, .int .i64 a, .int .i64 b, .int .i64 m] 23 (0, 0))) := by apply hide; rw [hb.block _ (Array.getElem?_eq_some_iff.1 Q3.out).1]; exact Q3.out
  clear hb HO3 HB3 Q3 he2 c0 c1 c2 c3 d0 d1 d2 d3
  go_wp2_with fail
  refine (hd2 _ HO4.out).mono ?_
  rintro e w5 ⟨rfl, hb⟩
  have HB5 := hide (HB4.out.trans (hb.mono HB4.out.size))
  have q5 : w5.heap[N]? = some (.cells #[.int .i64 op, .int .i64 a, .int .i64 b, .int .i64 m] 23 (0, 0)) := by rw [hb.block _ (Array.getElem?_eq_some_iff.1 Q4.out).1]; exact Q4.out
  have hlt : N < w5.heap.size := (Array.getElem?_eq_some_iff.1 q5).1
  clear hb HO4 HB4 Q4 hd2
  have c0 : w5.cell? ⟨N, 0, none⟩ = some (.int .i64 op) := by rw [cell_of_row _ _ _ _ _ _ q5]; rfl
  have c1 : w5.cell? ⟨N, 1, none⟩ = some (.int .i64 a) := by rw [cell_of_row _ _ _ _ _ _ q5]; rfl
  have c2 : w5.cell? ⟨N, 2, none⟩ = some (.int .i64 b) := by rw [cell_of_row _ _ _ _ _ _ q5]; rfl
  have c3 : w5.cell? ⟨N, 3, none⟩ = some (.int .i64 m) := by rw [cell_of_row _ _ _ _ _ _ q5]; rfl
  clear q5
  go_wp2
  go_ret
  exact ⟨rfl, HB5.out.alloc HB5.out.size _⟩
theorem back_walk (n : Nat) (hn : n < 4294967296) (i : I) (hO : Ops w) : Calls Tryd.prog 4 #[.int .u32 (n : Nat), .agg i.cells.toArray] w fun e w' => e = .returned (.bool true) ∧ Below w.heap.size w w' := by
  rcases hx : isI (parts n) with _ | _ <;> rcases hy : isI i with _ | _
  · exact back_00 w n 0 _ _ _ _ 0 0 0 0 hO (fun w h => by have d := dec_any w n hn h; rwa [(decI_no rfl hx).1, (decI_no rfl hx).2] at d) (fun w h => enc_no w ⟨0, 0, 0, 0⟩ isI_nil h) (fun w h => enc_no w i hy h)
      (fun w h => by have d := dec_any w 0 (by decide) h; rwa [(decI_no (i := ⟨0, 0, 0, 0⟩) rfl isI_nil).1, (decI_no (i := ⟨0, 0, 0, 0⟩) rfl isI_nil).2] at d)
  · exact back_01 w n (word i) _ _ _ _ 0 0 0 0 hO (fun w h => by have d := dec_any w n hn h; rwa [(decI_no rfl hx).1, (decI_no rfl hx).2] at d) (fun w h => enc_no w ⟨0, 0, 0, 0⟩ isI_nil h) (fun w h => enc_yes w i hy h)
      (fun w h => by have d := dec_any w (word i) (word_lt (isn.1 hy)) h; rwa [(decI_yes (parts_word (isn.1 hy)) hy).1, (decI_yes (parts_word (isn.1 hy)) hy).2] at d)
  · exact back_10 w n 0 _ _ _ _ _ _ _ _ (isn.1 hx).op1 (isn.1 hx).op2 hO (fun w h => by have d := dec_any w n hn h; rwa [(decI_yes rfl hx).1, (decI_yes rfl hx).2] at d)
      (fun w h => by have e := enc_yes w (parts n) hx h; rwa [word_parts hn] at e) (fun w h => enc_no w i hy h)
      (fun w h => by have d := dec_any w 0 (by decide) h; rwa [(decI_no (i := ⟨0, 0, 0, 0⟩) rfl isI_nil).1, (decI_no (i := ⟨0, 0, 0, 0⟩) rfl isI_nil).2] at d)
  · exact back_11 w n (word i) _ _ _ _ _ _ _ _ (isn.1 hx).op1 (isn.1 hx).op2 hO (fun w h => by have d := dec_any w n hn h; rwa [(decI_yes rfl hx).1, (decI_yes rfl hx).2] at d)
      (fun w h => by have e := enc_yes w (parts n) hx h; rwa [word_parts hn] at e) (fun w h => enc_yes w i hy h)
      (fun w h => by have d := dec_any w (word i) (word_lt (isn.1 hy)) h; rwa [(decI_yes (parts_word (isn.1 hy)) hy).1, (decI_yes (parts_word (isn.1 hy)) hy).2] at d)
end
end Go.Proofs.YtfonenigkjngoaaDoor
