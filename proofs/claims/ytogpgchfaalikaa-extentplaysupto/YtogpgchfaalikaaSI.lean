import Derived.Test.YtogpgchfaalikaaSH
namespace Go.Proofs.Ytogpgchfaalikaa
open Go.RowKit

/-- what is bounded by the number of steps -/
structure Bd (i : Nat) (C : Nat → Cl) (D : Dsk) (N M : Nat) : Prop where
  n : N ≤ i
  m : M + D.c.length ≤ i
  a : D.acts ≤ i
  h : ∀ n, (C n).ho ≤ i
section
variable {i N M L : Nat} {C : Nat → Cl} {D : Dsk}
theorem Bd.up (h : Bd i C D N M) : Bd (i + 1) C D N M := ⟨by have := h.n; omega, by have := h.m; omega, by have := h.a; omega, fun n => by have := h.h n; omega⟩
theorem Bd.claim (h : Bd i C D N M) (z s : Int) : Bd (i + 1) (clC C L z s) D (N + 1) M := by
  refine ⟨by have := h.n; omega, by have := h.m; omega, by have := h.a; omega, fun n => ?_⟩
  have := h.h n
  unfold clC
  split
  · unfold put; split
    · show 1 ≤ i + 1; omega
    · omega
  · omega
theorem Bd.hold (h : Bd i C D N M) (z : Int) : Bd (i + 1) (hdC C z) D N M := by
  refine ⟨by have := h.n; omega, by have := h.m; omega, by have := h.a; omega, fun n => ?_⟩
  have := h.h n
  have hz := h.h z.toNat
  unfold hdC
  split
  · unfold put; split
    · show (C z.toNat).ho + 1 ≤ i + 1; omega
    · omega
  · omega
theorem Bd.drop (h : Bd i C D N M) (z : Int) : Bd (i + 1) (dpC C z) D N M := by
  refine ⟨by have := h.n; omega, by have := h.m; omega, by have := h.a; omega, fun n => ?_⟩
  have := h.h n
  have hz := h.h z.toNat
  unfold dpC
  split
  · split
    · unfold put; split
      · show 0 ≤ i + 1; omega
      · omega
    · unfold put; split
      · show (C z.toNat).ho - 1 ≤ i + 1; omega
      · omega
  · omega
theorem Bd.flush (h : Bd i C D N M) : Bd (i + 1) C (flD D) N (flM D M) := by
  have hm := h.m
  have ha := h.a
  refine ⟨by have := h.n; omega, ?_, ?_, fun n => by have := h.h n; omega⟩
  · unfold flD flM
    split
    · show M + D.c.length ≤ i + 1; omega
    · show M + D.c.length + 0 ≤ i + 1; omega
  · unfold flD
    split
    · show D.acts ≤ i + 1; omega
    · show D.acts + 1 ≤ i + 1; omega
theorem Bd.arm (h : Bd i C D N M) (z : Int) : Bd (i + 1) C (amD D z) N M := by
  have hm := h.m
  have ha := h.a
  refine ⟨by have := h.n; omega, ?_, ?_, fun n => by have := h.h n; omega⟩
  · unfold amD
    split
    · omega
    · split
      · omega
      · show M + D.c.length ≤ i + 1; omega
  · unfold amD
    split
    · omega
    · split
      · omega
      · show D.acts ≤ i + 1; omega
theorem Bd.crash (h : Bd i C D N M) (p : Nat → Bool) : Bd (i + 1) C (D.up.settled p) N (M + D.c.length) := by
  have hm := h.m
  have ha := h.a
  refine ⟨by have := h.n; omega, ?_, ?_, fun n => by have := h.h n; omega⟩
  · show M + D.c.length + 0 ≤ i + 1; omega
  · show D.acts ≤ i + 1; omega
theorem Bd.write (h : Bd i C D N M) (z s : Int) (zs : List Nat) : Bd (i + 1) C (wtD C D z s zs) N M := by
  have hm := h.m
  have ha := h.a
  refine ⟨by have := h.n; omega, ?_, ?_, fun n => by have := h.h n; omega⟩
  · unfold wtD
    split
    · omega
    · split
      · omega
      · split
        · show M + D.c.length ≤ i + 1; omega
        · show M + (D.c ++ [_]).length ≤ i + 1
          rw [List.length_append]; simp; omega
  · unfold wtD
    split
    · omega
    · split
      · omega
      · split
        · show D.acts ≤ i + 1; omega
        · show D.acts + 1 ≤ i + 1; omega
end
end Go.Proofs.Ytogpgchfaalikaa
