import Derived.Test.YtihkkbbphdgagaaOP
import Derived.Test.YtihkkbbphdgagaaP4
namespace Go.Proofs.Ytihkkbbphdgagaa
open Go.ChangeShapes Go.WideShapes Go.ChangeAt Go.RowKit Go.Deep
section
variable {H : Type} {enc : TypeId × Value → H} {w : World} {base : Nat} {spare : Nat → Bool} {held : Bool}
theorem open_bys {fuel : Nat} {cs : List Value} {x : DataW H × List MemPlace} (h : DataW.trod enc Try.prog w base spare held fuel 25 cs = some x) :
    ∃ (a : Option Addr) (len cap : Nat) (Z : Nat → Nat), cs = [.slice a len cap] ∧ len ≤ maxLen ∧ IsBys w a len Z := by
  rcases open_slice1 Try.underlying25 (by kernel_rfl) h with ⟨rfl, _⟩ | ⟨a, len, cap, m, n, V, D, Pl, rfl, hb, hl, hm, hmm, rfl, hx⟩
  · exact ⟨none, 0, 0, fun _ => 0, rfl, Nat.zero_le _, fun k hk => by omega⟩
  have hlm : len ≤ m := by rw [hmm]; split <;> omega
  have each : ∀ i, i < len → ∃ z : Nat, V i = .int .u8 (z : Nat) ∧ z < 256 := fun i hi => by
    obtain ⟨z, h1, _, h2⟩ := DataW.trod_int Try.underlying5 (hx i (by omega)).2
    have h3 : 0 ≤ z ∧ z ≤ 255 := by simpa [Lit.wf, IntKind.min, IntKind.max, IntKind.signed, IntKind.bits] using h2
    refine ⟨z.toNat, ?_, by omega⟩
    simp at h1
    rw [h1]; congr 1; omega
  obtain ⟨Z, hZ⟩ := choose_lt each
  exact ⟨some a, len, cap, Z, rfl, Nat.le_trans hl hm, fun k hk => ⟨a, rfl, by rw [(hx k (by omega)).1, (hZ k hk).1], (hZ k hk).2⟩⟩
end
end Go.Proofs.Ytihkkbbphdgagaa
