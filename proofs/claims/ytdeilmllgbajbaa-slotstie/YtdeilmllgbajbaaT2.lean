import Derived.Test.YtdeilmllgbajbaaT1
import Derived.Laws.MakeOwn
namespace Go.Proofs.Ytdeilmllgbajbaa
open Go.RowKit

set_option maxHeartbeats 400000 in
theorem cell_any (w : World) (v : Int) :
    Calls Try.prog 8 #[.int .i64 v] w fun x w' => x = .returned (cl v).val ∧ Below w.heap.size w w' := by
  by_cases h : v.tmod 2 = 0
  · go_enter Try.func8, Try.ntmps8
    go_wp2
    go_returns
    exact ⟨by simp [cl, Cl.val, h], (Below.refl _ _).alloc (Nat.le_refl _) _⟩
  · go_enter Try.func8, Try.ntmps8
    go_wp2
    go_returns
    exact ⟨by simp [cl, Cl.val, h], (Below.refl _ _).alloc (Nat.le_refl _) _⟩

/-- the bound of New(n) -/
def clp (n : Int) : Nat := (min (max n 0) 4096).toNat
theorem clp_le (n : Int) : clp n ≤ 4096 := by unfold clp; omega
theorem clp_eq (n : Int) : ((clp n : Nat) : Int) = min (max n 0) 4096 := by unfold clp; omega
theorem clp_cases (n : Int) : (n < 0 ∧ clp n = 0) ∨ (∃ N : Nat, N < 4096 ∧ n = (N : Int) ∧ clp n = N) ∨ (4096 ≤ n ∧ clp n = 4096) := by
  unfold clp
  by_cases h : 4096 ≤ n
  · exact .inr (.inr ⟨h, by omega⟩)
  · by_cases h' : n < 0
    · exact .inl ⟨by omega, by omega⟩
    · exact .inr (.inl ⟨n.toNat, by omega, by omega, by omega⟩)
end Go.Proofs.Ytdeilmllgbajbaa
