import Derived.Test.YtogpgchfaalikaaOU
import Derived.Test.YtogpgchfaalikaaXB
namespace Go.Proofs.Ytogpgchfaalikaa
open Go.ChangeShapes Go.WideShapes Go.ChangeAt Go.RowKit Go.Deep
section
variable {H : Type} {enc : TypeId × Value → H} {P : Program} {w : World} {base : Nat} {spare : Nat → Bool} {held : Bool}
theorem open_tri {t e f : TypeId} {fuel : Nat} {cs : List Value} {x : DataW H × List MemPlace} (ht : P.underlying t = some (.slice e)) (he : P.underlying e = some (.array 3 f)) (hf : P.underlying f = some (.int .i64)) (ce : P.cellsOf e = 3) (cf : P.cellsOf f = 1)
    (h : DataW.trod enc P w base spare held fuel t cs = some x) : ∃ (a : Option Addr) (len cap : Nat) (Z : Nat → Int × Int × Int), cs = [.slice a len cap] ∧ len ≤ Rows.uptoBulk x.1 ∧ IsTri w a len Z := by
  rcases open_slice ht h with ⟨rfl, _⟩ | ⟨a, len, cap, m, n, D, Pl, rfl, hb, hl, hm, hmm, rfl, hx⟩
  · exact ⟨none, 0, 0, fun _ => (0, 0, 0), rfl, Nat.zero_le _, fun k hk => by omega⟩
  have hlm : len ≤ m := by rw [hmm]; split <;> omega
  have each : ∀ i, i < len → ∃ q : Int × Int × Int, w.cell? (a.add (i * 3)) = some (.int .i64 q.1) ∧ w.cell? (a.add (i * 3 + 1)) = some (.int .i64 q.2.1) ∧ w.cell? (a.add (i * 3 + 2)) = some (.int .i64 q.2.2) := by
    intro i hi
    obtain ⟨cs', h1, h2⟩ := hx i (by omega)
    rw [ce] at h1
    obtain ⟨_, hlen, hcell⟩ := World.cells?_some h1
    obtain ⟨xs, k, hk, hxy, _, hxl, hq⟩ := DataW.trod_array he h2
    match xs, hxl, cs', hlen with
    | [y0, y1, y2], _, [v0, v1, v2], _ =>
      have g0 := hq 0 (by omega)
      have g1 := hq 1 (by omega)
      have g2 := hq 2 (by omega)
      simp [cf] at g0 g1 g2
      have e0 := hcell 0 (by omega)
      have e1 := hcell 1 (by omega)
      have e2 := hcell 2 (by omega)
      rw [add_add] at e0 e1 e2
      obtain ⟨z0, rfl⟩ := int_cellU hf g0
      obtain ⟨z1, rfl⟩ := int_cellU hf g1
      obtain ⟨z2, rfl⟩ := int_cellU hf g2
      exact ⟨(z0, z1, z2), by simpa using e0, by simpa using e1, by simpa using e2⟩
  obtain ⟨Z, hZ⟩ := choose_lt each
  refine ⟨some a, len, cap, Z, rfl, ?_, fun k hk => ⟨a, rfl, hZ k hk⟩⟩
  have := bulk_slice ((List.range len).map D) ((List.range (m - len)).map fun j => D (len + j))
  simpa using this
end
end Go.Proofs.Ytogpgchfaalikaa
