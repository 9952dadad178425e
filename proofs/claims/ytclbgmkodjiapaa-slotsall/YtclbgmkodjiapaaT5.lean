import Derived.Test.YtclbgmkodjiapaaT3
namespace Go.Proofs.Ytclbgmkodjiapaa
open Go.RowKit

/-- k is the lowest taken place from s on -/
def IsNext {α : Type} (m : List (Option α)) (s k : Nat) : Prop := s ≤ k ∧ (∃ c, m[k]? = some (some c)) ∧ ∀ j : Nat, s ≤ j → j < k → look m (j : Int) = none
/-- there is none from s on -/
def NoNext {α : Type} (m : List (Option α)) (s : Nat) : Prop := ∀ j : Nat, s ≤ j → look m (j : Int) = none

end Go.Proofs.Ytclbgmkodjiapaa
