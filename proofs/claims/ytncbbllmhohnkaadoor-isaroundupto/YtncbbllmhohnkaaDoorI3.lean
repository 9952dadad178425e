import Derived.Test.YtncbbllmhohnkaaDoorI1
namespace Go.Proofs.YtncbbllmhohnkaaDoor
open Go.RowKit
theorem bel1 (w : World) (o : Obj) : Below w.heap.size w (w.alloc o) := (Below.refl _ _).alloc (Nat.le_refl _) _
theorem bel2 (w : World) (o o' : Obj) : Below w.heap.size w ((w.alloc o).alloc o') := (bel1 w o).trans ((bel1 _ o').mono (by simp))
theorem info_op : (Tryd.prog.info? 91).map (·.size) = some 4 := by kernel_rfl
section
variable (w : World)
set_option maxHeartbeats 1000000 in
theorem isInstr_any (i : I) (hO : Ops w) : Calls Tryd.prog 42 #[.agg i.cells.toArray] w fun e w' => e = .returned (.bool (isI i)) ∧ Below w.heap.size w w' := by
  obtain ⟨op, a, b, imm⟩ := i
  simp only [I.cells]
  by_cases ho : 1 ≤ op ∧ op < 27
  · obtain ⟨h1, h2⟩ := ho
    obtain ⟨n, rfl⟩ := Int.eq_ofNat_of_zero_le (show 0 ≤ op by omega)
    have hn : n < 27 := by omega
    obtain ⟨s, c0, _⟩ := hO.s n hn
    have c1 := hO.a n hn
    have c2 := hO.b n hn
    have c3 := hO.k n hn
    have hk := kd_le n
    have HS : Hid (isI ⟨(n : Int), a, b, imm⟩ = (fitsB a (uA n) && fitsB b (uB n) && decide (lo (kd n) ≤ imm) && decide (imm ≤ hi (kd n)))) := by
      apply hide; simp [isI, h1, h2]
    have hlt := hO.lt
    clear hO
    generalize uA n = u at *
    generalize uB n = v at *
    generalize kd n = k at *
    have hO : (decide (1 ≤ (n : Int)) && decide ((n : Int) < 27)) = true := by simp; omega
    go_enter Tryd.func42, Tryd.ntmps42
    go_wp2_with fail
    refine (isOp_any _ _).mono ?_
    rintro e w1 ⟨rfl, rfl⟩
    go_wp2_with fail
    refine (bounds_any _ k hk).mono ?_
    rintro e w2 ⟨rfl, rfl⟩
    go_wp2_with fail
    refine (fits_any _ a u).mono ?_
    rintro e w2 ⟨rfl, rfl⟩
    rcases hx : fitsB a u with _ | _
    · rw [hx] at HS
      go_wp2
      go_ret
      exact ⟨by rw [HS.out]; rfl, bel2 _ _ _⟩
    · rw [hx] at HS
      go_wp2_with fail
      refine (fits_any _ b v).mono ?_
      rintro e w2 ⟨rfl, rfl⟩
      rcases hy : fitsB b v with _ | _
      · rw [hy] at HS
        go_wp2
        go_ret
        exact ⟨by rw [HS.out]; rfl, bel2 _ _ _⟩
      · rw [hy] at HS
        by_cases hl : lo k ≤ imm
        · by_cases hh : imm ≤ hi k
          · go_wp2
            go_ret
            exact ⟨by rw [HS.out]; simp [hl, hh], bel2 _ _ _⟩
          · go_wp2
            go_ret
            exact ⟨by rw [HS.out]; simp; omega, bel2 _ _ _⟩
        · go_wp2
          go_ret
          exact ⟨by rw [HS.out]; simp; omega, bel2 _ _ _⟩
  · have hO2 : (decide (1 ≤ op) && decide (op < 27)) = false := by simp; omega
    have HS : Hid (isI ⟨op, a, b, imm⟩ = false) := by apply hide; simp [isI]; omega
    go_enter Tryd.func42, Tryd.ntmps42
    go_wp2_with fail
    refine (isOp_any _ _).mono ?_
    rintro e w1 ⟨rfl, rfl⟩
    go_wp2
    go_ret
    exact ⟨by rw [HS.out]; rfl, (Below.refl _ _).alloc (Nat.le_refl _) _⟩
end
end Go.Proofs.YtncbbllmhohnkaaDoor
