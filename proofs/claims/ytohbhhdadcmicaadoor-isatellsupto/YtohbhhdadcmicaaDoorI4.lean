import Derived.Test.YtohbhhdadcmicaaDoorI2
import Derived.Test.YtohbhhdadcmicaaDoorI3
namespace Go.Proofs.YtohbhhdadcmicaaDoor
open Go.RowKit
section
variable (w : World)
set_option maxHeartbeats 1000000 in
theorem rfits_any (i : I) : Calls Tryd.prog 31 #[.agg i.cells.toArray] w fun e w' => e = .returned (.bool (isI i)) ∧ Below w.heap.size w w' := by
  obtain ⟨op, a, b, imm⟩ := i
  simp only [I.cells]
  by_cases h1 : 1 ≤ op
  · by_cases h2 : op < 27
    · obtain ⟨n, rfl⟩ := Int.eq_ofNat_of_zero_le (show 0 ≤ op by omega)
      have hn : n < 27 := by omega
      have HS : Hid (isI ⟨(n : Int), a, b, imm⟩ = (fitsB a (uA n) && fitsB b (uB n) && numB imm (kd n))) := by
        apply hide; simp [isI, h1, h2, numB, Bool.and_assoc]
      go_enter Tryd.func31, Tryd.ntmps31
      go_wp2_with fail
      refine (shape_in _ n hn).mono ?_
      rintro e w1 ⟨rfl, rfl⟩
      go_wp2_with fail
      refine (register_any _ a (uA n)).mono ?_
      rintro e w1 ⟨rfl, rfl⟩
      rcases hx : fitsB a (uA n) with _ | _
      · rw [hx] at HS
        go_wp2
        go_ret
        exact ⟨by rw [HS.out]; rfl, bel1 _ _⟩
      · rw [hx] at HS
        go_wp2_with fail
        refine (register_any _ b (uB n)).mono ?_
        rintro e w2 ⟨rfl, rfl⟩
        rcases hy : fitsB b (uB n) with _ | _
        · rw [hy] at HS
          go_wp2
          go_ret
          exact ⟨by rw [HS.out]; rfl, bel1 _ _⟩
        · rw [hy] at HS
          go_wp2_with fail
          refine (number_any _ imm n).mono ?_
          rintro e w2 ⟨rfl, rfl⟩
          go_wp2
          go_ret
          exact ⟨by rw [HS.out]; rfl, bel1 _ _⟩
    · have h3 : 26 < op := by omega
      have HS : Hid (isI ⟨op, a, b, imm⟩ = false) := by apply hide; simp [isI]; omega
      go_enter Tryd.func31, Tryd.ntmps31
      go_wp2
      go_ret
      exact ⟨by rw [HS.out]; rfl, bel1 _ _⟩
  · have HS : Hid (isI ⟨op, a, b, imm⟩ = false) := by apply hide; simp [isI]; omega
    go_enter Tryd.func31, Tryd.ntmps31
    go_wp2
    go_ret
    exact ⟨by rw [HS.out]; rfl, bel1 _ _⟩
end
end Go.Proofs.YtohbhhdadcmicaaDoor
