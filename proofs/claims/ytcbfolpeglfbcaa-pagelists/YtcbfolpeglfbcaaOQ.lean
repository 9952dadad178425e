import Derived.Test.YtcbfolpeglfbcaaOP
namespace Go.Proofs.Ytcbfolpeglfbcaa
open Go.ChangeShapes Go.WideShapes Go.ChangeAt Go.RowKit Go.Deep
section
variable {H : Type} {enc : TypeId × Value → H} {w : World} {base : Nat} {spare : Nat → Bool} {held : Bool}
/-- mappings that came in, and what the reading holds of them -/
theorem open_maps_sz {fuel : Nat} {cs : List Value} {x : DataW H × List MemPlace} (h : DataW.trod enc Try.prog w base spare held fuel 29 cs = some x) :
    ∃ (a : Option Addr) (len cap : Nat) (O : Nat → Mp), cs = [.slice a len cap] ∧ IsMaps w a len O ∧ (len = 0 ∨ ∃ el sp, x.1 = .slice el sp ∧ el.length = len) := by
  rcases open_slice Try.underlying29 h with ⟨rfl, _⟩ | ⟨a, len, cap, m, n, D, Pl, rfl, hb, hl, hm, hmm, rfl, hx⟩
  · exact ⟨none, 0, 0, fun _ => Mp.nil, rfl, fun k hk => by omega, .inl rfl⟩
  have hlm : len ≤ m := by rw [hmm]; split <;> omega
  have ce : Try.prog.cellsOf 50 = 3 := by kernel_rfl
  have each : ∀ i, i < len → ∃ o : Mp, ∀ (j : Nat) (v : Value), o.cells[j]? = some v → w.cell? ((a.add (i * 3)).add j) = some v := by
    intro i hi
    obtain ⟨cs', h1, h2⟩ := hx i (by omega)
    rw [ce] at h1
    obtain ⟨_, hlen, hcell⟩ := World.cells?_some h1
    obtain ⟨o, rfl⟩ := open_map hlen h2
    refine ⟨o, fun j v hv => ?_⟩
    have hj : j < 3 := (List.getElem?_eq_some_iff.1 hv).1
    rw [hcell j hj]; exact hv
  haveI : Inhabited Mp := ⟨Mp.nil⟩
  obtain ⟨O, hO⟩ := choose_lt each
  exact ⟨some a, len, cap, O, rfl, fun k hk => ⟨a, rfl, hO k hk⟩, .inr ⟨_, _, rfl, by simp⟩⟩
end
theorem bytes50 : Try.prog.bytesOf 50 = 24 := by kernel_rfl
end Go.Proofs.Ytcbfolpeglfbcaa
