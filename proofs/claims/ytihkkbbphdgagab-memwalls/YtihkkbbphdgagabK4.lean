import Derived.Test.YtihkkbbphdgagabK1
namespace Go.Proofs.Ytihkkbbphdgagab
open Go.RowKit

/-- the step writes frame 0 of two -/
def Wr (o : Ost) : Prop := (o.kd = 5 ∧ o.fa = 0 ∧ 0 ≤ o.na ∧ o.na < 32) ∨ (o.kd = 7 ∧ o.fa = 0) ∨ (o.kd = 8 ∧ o.ga = 0 ∧ (o.fa = 0 ∨ o.fa = 1))
def wrB (o : Ost) : Bool := decide ((o.kd = 5 ∧ o.fa = 0 ∧ 0 ≤ o.na ∧ o.na < 32) ∨ (o.kd = 7 ∧ o.fa = 0) ∨ (o.kd = 8 ∧ o.ga = 0 ∧ (o.fa = 0 ∨ o.fa = 1)))
theorem wr_yes {o : Ost} (h : Wr o) : wrB o = true := decide_eq_true h
theorem wr_no {o : Ost} (h : ¬ Wr o) : wrB o = false := decide_eq_false h
set_option maxRecDepth 10000 in
set_option maxHeartbeats 2000000 in
theorem writes_any (w : World) (o : Ost) :
    Calls Try.prog 13 #[.agg o.cells.toArray] w fun e w' => e = .returned (.bool (wrB o)) ∧ Below w.heap.size w w' := by
  have hO := Ob.new w o
  have hB0 : Below w.heap.size w (w.alloc (.cells o.cells.toArray 34)) := (Below.refl _ _).alloc (Nat.le_refl _) _
  obtain ⟨b, hb⟩ : ∃ b, wrB o = b := ⟨_, rfl⟩
  rw [hb]
  have HW := hide hb
  clear hb
  go_enter Try.func13, Try.ntmps13
  go_upto_region 1 with fail
  generalize w.alloc (.cells o.cells.toArray 34) = w0 at *
  obtain ⟨_, c1, c2, c3, c4, c5⟩ := hO.c
  have HB := hide hB0
  clear hO hB0
  by_cases k5 : o.kd = 5
  · rw [k5] at c1
    by_cases a1 : o.fa = 0
    · by_cases a2 : 0 ≤ o.na
      · by_cases a3 : o.na < 32
        · obtain rfl : b = true := by rw [← HW.out]; exact wr_yes (.inl ⟨k5, a1, a2, a3⟩)
          rw [a1] at c2
          go_wp2
          go_ret
          exact ⟨rfl, HB.out⟩
        · obtain rfl : b = false := by rw [← HW.out]; exact wr_no (by unfold Wr; omega)
          rw [a1] at c2
          have d : decide (o.na < 32) = false := by simpa using a3
          go_wp2
          go_ret
          exact ⟨rfl, HB.out⟩
      · obtain rfl : b = false := by rw [← HW.out]; exact wr_no (by unfold Wr; omega)
        rw [a1] at c2
        have d : decide (0 ≤ o.na) = false := by simpa using a2
        go_wp2
        go_ret
        exact ⟨rfl, HB.out⟩
    · obtain rfl : b = false := by rw [← HW.out]; exact wr_no (by unfold Wr; omega)
      have d : decide (o.fa = 0) = false := by simpa using a1
      go_wp2
      go_ret
      exact ⟨rfl, HB.out⟩
  by_cases k7 : o.kd = 7
  · rw [k7] at c1
    by_cases a1 : o.fa = 0
    · obtain rfl : b = true := by rw [← HW.out]; exact wr_yes (.inr (.inl ⟨k7, a1⟩))
      rw [a1] at c2
      go_wp2
      go_ret
      exact ⟨rfl, HB.out⟩
    · obtain rfl : b = false := by rw [← HW.out]; exact wr_no (by unfold Wr; omega)
      have d : decide (o.fa = 0) = false := by simpa using a1
      go_wp2
      go_ret
      refine ⟨?_, HB.out⟩
      simp [a1]
  by_cases k8 : o.kd = 8
  · rw [k8] at c1
    by_cases a1 : o.ga = 0
    · rw [a1] at c3
      by_cases a2 : o.fa = 0
      · obtain rfl : b = true := by rw [← HW.out]; exact wr_yes (.inr (.inr ⟨k8, a1, .inl a2⟩))
        rw [a2] at c2
        go_wp2
        go_ret
        exact ⟨rfl, HB.out⟩
      · by_cases a3 : o.fa = 1
        · obtain rfl : b = true := by rw [← HW.out]; exact wr_yes (.inr (.inr ⟨k8, a1, .inr a3⟩))
          rw [a3] at c2
          go_wp2
          go_ret
          exact ⟨rfl, HB.out⟩
        · obtain rfl : b = false := by rw [← HW.out]; exact wr_no (by unfold Wr; omega)
          have d : decide (o.fa = 0) = false := by simpa using a2
          have d2 : decide (o.fa = 1) = false := by simpa using a3
          go_wp2
          go_ret
          refine ⟨?_, HB.out⟩
          simp [a2, a3]
    · obtain rfl : b = false := by rw [← HW.out]; exact wr_no (by unfold Wr; omega)
      have d : decide (o.ga = 0) = false := by simpa using a1
      go_wp2
      go_ret
      exact ⟨rfl, HB.out⟩
  · obtain rfl : b = false := by rw [← HW.out]; exact wr_no (by unfold Wr; omega)
    have d1 : decide (o.kd = 5) = false := by simpa using k5
    have d2 : decide (o.kd = 7) = false := by simpa using k7
    have d3 : decide (o.kd = 8) = false := by simpa using k8
    go_wp2
    go_ret
    exact ⟨rfl, HB.out⟩
end Go.Proofs.Ytihkkbbphdgagab
