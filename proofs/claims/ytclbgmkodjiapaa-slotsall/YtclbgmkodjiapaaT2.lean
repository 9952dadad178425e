import Derived.Test.YtclbgmkodjiapaaT1
import Derived.Laws.MakeOwn
namespace Go.Proofs.Ytclbgmkodjiapaa
open Go.RowKit


/-- the bound of New(n) -/
def clp (n : Int) : Nat := (min (max n 0) 4096).toNat
theorem clp_le (n : Int) : clp n ≤ 4096 := by unfold clp; omega
theorem clp_eq (n : Int) : ((clp n : Nat) : Int) = min (max n 0) 4096 := by unfold clp; omega
theorem clp_cases (n : Int) : (n < 0 ∧ clp n = 0) ∨ (∃ N : Nat, N < 4096 ∧ n = (N : Int) ∧ clp n = N) ∨ (4096 ≤ n ∧ clp n = 4096) := by
  unfold clp
  by_cases h : 4096 ≤ n
  · exact .inr (.inr ⟨h, by omega⟩)
  · by_cases h' : n < 0
    · exact .inl ⟨by omega, by omega⟩
    · exact .inr (.inl ⟨n.toNat, by omega, by omega, by omega⟩)
end Go.Proofs.Ytclbgmkodjiapaa
