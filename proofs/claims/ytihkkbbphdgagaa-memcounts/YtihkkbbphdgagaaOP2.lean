import Derived.Test.YtihkkbbphdgagaaJ5
import Derived.Test.YtihkkbbphdgagaaOP
namespace Go.Proofs.Ytihkkbbphdgagaa
open Go.ChangeShapes Go.WideShapes Go.ChangeAt Go.RowKit Go.Deep
section
variable {H : Type} {enc : TypeId × Value → H} {w : World} {base : Nat} {spare : Nat → Bool} {held : Bool}
theorem open_ints1 {fuel : Nat} {cs : List Value} {x : DataW H × List MemPlace} (h : DataW.trod enc Try.prog w base spare held fuel 35 cs = some x) :
    ∃ (a : Option Addr) (len cap : Nat) (Z : Nat → Int), cs = [.slice a len cap] ∧ len ≤ maxLen ∧ IsInts w a len Z := by
  rcases open_slice1 Try.underlying35 (by kernel_rfl) h with ⟨rfl, _⟩ | ⟨a, len, cap, m, n, V, D, Pl, rfl, hb, hl, hm, hmm, rfl, hx⟩
  · exact ⟨none, 0, 0, fun _ => 0, rfl, Nat.zero_le _, fun k hk => by omega⟩
  have hlm : len ≤ m := by rw [hmm]; split <;> omega
  have each : ∀ i, i < len → ∃ z : Int, V i = .int .i64 z := fun i hi => by
    obtain ⟨z, h1, _⟩ := DataW.trod_int Try.underlying3 (hx i (by omega)).2
    exact ⟨z, by simpa using h1⟩
  obtain ⟨Z, hZ⟩ := choose_lt each
  exact ⟨some a, len, cap, Z, rfl, Nat.le_trans hl hm, fun k hk => ⟨a, rfl, by rw [(hx k (by omega)).1, hZ k hk]⟩⟩
end
end Go.Proofs.Ytihkkbbphdgagaa
