import Derived.Test.YtmflohehnoghhaaPA
import Derived.ProofKit
import Derived.OpenShut
import Derived.Deep.Slices
namespace Go.Proofs.Ytmflohehnoghhaa
open Go.ChangeShapes Go.WideShapes Go.ChangeAt Go.RowKit Go.Deep
/-- steps that came in -/
structure OpIs (w : World) (x : Addr) (k : Nat) (o : Ost) : Prop where
  c : ∀ (j : Nat) (v : Value), o.cells[j]? = some v → w.cell? ((x.add (k * 7)).add j) = some v
  z : IsMaps w o.la o.ll o.Z
  l : o.ll ≤ maxLen
  a : o.ad < 4294967296
def IsOps (w : World) (a : Option Addr) (len : Nat) (O : Nat → Ost) : Prop := ∀ k, k < len → ∃ x, a = some x ∧ OpIs w x k (O k)
theorem OpIs.below {w w' : World} {x : Addr} {k : Nat} {o : Ost} (h : OpIs w x k o) (hb : Below w.heap.size w w') : OpIs w' x k o := by
  refine ⟨fun j v hv => ?_, h.z.below hb, h.l, h.a⟩
  have h3 := h.c j v hv
  rw [hb.cell (World.block_lt_of_cell? w _ h3)]; exact h3
theorem IsOps.below {w w' : World} {a : Option Addr} {len : Nat} {O : Nat → Ost} (h : IsOps w a len O) (hb : Below w.heap.size w w') : IsOps w' a len O := by
  intro k hk
  obtain ⟨x, h1, h2⟩ := h k hk
  exact ⟨x, h1, h2.below hb⟩
def Ost.nil : Ost := ⟨0, 0, 0, 0, false, 0, none, 0, 0, fun _ => ⟨0, 0, false⟩⟩
section
variable {H : Type} {enc : TypeId × Value → H} {w : World} {base : Nat} {spare : Nat → Bool} {held : Bool}
theorem u32_wf {z : Int} (h : (Lit.int .u32 z).wf = true) : 0 ≤ z ∧ z < 4294967296 := by
  have h3 : 0 ≤ z ∧ z ≤ 4294967295 := by simpa [Lit.wf, IntKind.min, IntKind.max, IntKind.signed, IntKind.bits] using h
  omega
theorem int_cell {t : TypeId} {n : Nat} {v : Value} {y : DataW H × List MemPlace} (ht : Try.prog.underlying t = some (.int .i64)) (h : DataW.trod enc Try.prog w base spare held n t [v] = some y) : ∃ z : Int, v = .int .i64 z := by
  obtain ⟨z, h1, _, h2⟩ := DataW.trod_int ht h
  exact ⟨z, by simpa using h1⟩
theorem u32_cell {t : TypeId} {n : Nat} {v : Value} {y : DataW H × List MemPlace} (ht : Try.prog.underlying t = some (.int .u32)) (h : DataW.trod enc Try.prog w base spare held n t [v] = some y) : ∃ z : Nat, v = .int .u32 (z : Nat) ∧ z < 4294967296 := by
  obtain ⟨z, h1, _, h2⟩ := DataW.trod_int ht h
  obtain ⟨h3, h4⟩ := u32_wf h2
  refine ⟨z.toNat, ?_, by omega⟩
  simp at h1
  rw [h1]; congr 1; omega
theorem bool_cell {t : TypeId} {n : Nat} {v : Value} {y : DataW H × List MemPlace} (ht : Try.prog.underlying t = some .bool) (h : DataW.trod enc Try.prog w base spare held n t [v] = some y) : ∃ z : Bool, v = .bool z := by
  obtain ⟨z, h1, _⟩ := DataW.trod_bool ht h
  exact ⟨z, by simpa using h1⟩
theorem open_map {n : Nat} {cs : List Value} {y : DataW H × List MemPlace} (hl : cs.length = 3) (h : DataW.trod enc Try.prog w base spare held n 64 cs = some y) : ∃ z : Mp, cs = z.cells := by
  obtain ⟨xs, k, hk, hxy, _, hxl, hf⟩ := DataW.trod_struct Try.underlying64 h
  match xs, hxl with
  | [y0, y1, y2], _ =>
    have g0 := hf 0 _ rfl
    have g1 := hf 1 _ rfl
    have g2 := hf 2 _ rfl
    have e1 : Try.prog.cellsOf 3 = 1 := by kernel_rfl
    have e2 : Try.prog.cellsOf 4 = 1 := by kernel_rfl
    match cs, hl with
    | [v0, v1, v2], hl =>
      simp [e1, e2] at g0 g1 g2
      obtain ⟨z0, rfl⟩ := int_cell Try.underlying3 g0
      obtain ⟨z1, rfl⟩ := int_cell Try.underlying3 g1
      obtain ⟨b, rfl⟩ := bool_cell Try.underlying4 g2
      exact ⟨⟨z0, z1, b⟩, rfl⟩
theorem open_maps {fuel : Nat} {cs : List Value} {x : DataW H × List MemPlace} (h : DataW.trod enc Try.prog w base spare held fuel 32 cs = some x) :
    ∃ (a : Option Addr) (len cap : Nat) (O : Nat → Mp), cs = [.slice a len cap] ∧ len ≤ maxLen ∧ IsMaps w a len O := by
  rcases open_slice Try.underlying32 h with ⟨rfl, _⟩ | ⟨a, len, cap, m, n, D, Pl, rfl, hb, hl, hm, hmm, rfl, hx⟩
  · exact ⟨none, 0, 0, fun _ => Mp.nil, rfl, Nat.zero_le _, fun k hk => by omega⟩
  have hlm : len ≤ m := by rw [hmm]; split <;> omega
  have ce : Try.prog.cellsOf 64 = 3 := by kernel_rfl
  have each : ∀ i, i < len → ∃ o : Mp, ∀ (j : Nat) (v : Value), o.cells[j]? = some v → w.cell? ((a.add (i * 3)).add j) = some v := by
    intro i hi
    obtain ⟨cs', h1, h2⟩ := hx i (by omega)
    rw [ce] at h1
    obtain ⟨_, hlen, hcell⟩ := World.cells?_some h1
    obtain ⟨o, rfl⟩ := open_map hlen h2
    refine ⟨o, fun j v hv => ?_⟩
    have hj : j < 3 := (List.getElem?_eq_some_iff.1 hv).1
    rw [hcell j hj]; exact hv
  haveI : Inhabited Mp := ⟨Mp.nil⟩
  obtain ⟨O, hO⟩ := choose_lt each
  exact ⟨some a, len, cap, O, rfl, Nat.le_trans hl hm, fun k hk => ⟨a, rfl, hO k hk⟩⟩
theorem open_op {n : Nat} {cs : List Value} {y : DataW H × List MemPlace} (hl : cs.length = 7) (h : DataW.trod enc Try.prog w base spare held n 34 cs = some y) : ∃ o : Ost, cs = o.cells ∧ IsMaps w o.la o.ll o.Z ∧ o.ll ≤ maxLen ∧ o.ad < 4294967296 := by
  obtain ⟨xs, k, hk, hxy, _, hxl, hf⟩ := DataW.trod_struct Try.underlying34 h
  match xs, hxl with
  | [y0, y1, y2, y3, y4, y5, y6], _ =>
    have g0 := hf 0 _ rfl
    have g1 := hf 1 _ rfl
    have g2 := hf 2 _ rfl
    have g3 := hf 3 _ rfl
    have g4 := hf 4 _ rfl
    have g5 := hf 5 _ rfl
    have g6 := hf 6 _ rfl
    have e1 : Try.prog.cellsOf 3 = 1 := by kernel_rfl
    have e2 : Try.prog.cellsOf 4 = 1 := by kernel_rfl
    have e3 : Try.prog.cellsOf 31 = 1 := by kernel_rfl
    have e4 : Try.prog.cellsOf 32 = 1 := by kernel_rfl
    match cs, hl with
    | [v0, v1, v2, v3, v4, v5, v6], hl =>
      simp [e1, e2, e3, e4] at g0 g1 g2 g3 g4 g5 g6
      obtain ⟨z0, rfl⟩ := int_cell Try.underlying3 g0
      obtain ⟨z1, rfl⟩ := int_cell Try.underlying3 g1
      obtain ⟨z2, rfl⟩ := int_cell Try.underlying3 g2
      obtain ⟨z3, rfl⟩ := int_cell Try.underlying3 g3
      obtain ⟨b, rfl⟩ := bool_cell Try.underlying4 g4
      obtain ⟨u, rfl, hu⟩ := u32_cell Try.underlying31 g5
      obtain ⟨a, l, c, Z, hc, h1, h2⟩ := open_maps g6
      simp at hc
      subst hc
      exact ⟨⟨z0, z1, z2, z3, b, u, a, l, c, Z⟩, rfl, h2, h1, hu⟩
theorem open_ops {fuel : Nat} {cs : List Value} {x : DataW H × List MemPlace} (h : DataW.trod enc Try.prog w base spare held fuel 22 cs = some x) :
    ∃ (a : Option Addr) (len cap : Nat) (O : Nat → Ost), cs = [.slice a len cap] ∧ len ≤ maxLen ∧ IsOps w a len O := by
  rcases open_slice Try.underlying22 h with ⟨rfl, _⟩ | ⟨a, len, cap, m, n, D, Pl, rfl, hb, hl, hm, hmm, rfl, hx⟩
  · exact ⟨none, 0, 0, fun _ => Ost.nil, rfl, Nat.zero_le _, fun k hk => by omega⟩
  have hlm : len ≤ m := by rw [hmm]; split <;> omega
  have ce : Try.prog.cellsOf 34 = 7 := by kernel_rfl
  have each : ∀ i, i < len → ∃ o : Ost, OpIs w a i o := by
    intro i hi
    obtain ⟨cs', h1, h2⟩ := hx i (by omega)
    rw [ce] at h1
    obtain ⟨_, hlen, hcell⟩ := World.cells?_some h1
    obtain ⟨o, rfl, o1, o2, o3⟩ := open_op hlen h2
    refine ⟨o, fun j v hv => ?_, o1, o2, o3⟩
    have hj : j < 7 := (List.getElem?_eq_some_iff.1 hv).1
    rw [hcell j hj]; exact hv
  haveI : Inhabited Ost := ⟨Ost.nil⟩
  obtain ⟨O, hO⟩ := choose_lt each
  exact ⟨some a, len, cap, O, rfl, Nat.le_trans hl hm, fun k hk => ⟨a, rfl, hO k hk⟩⟩
end
end Go.Proofs.Ytmflohehnoghhaa
