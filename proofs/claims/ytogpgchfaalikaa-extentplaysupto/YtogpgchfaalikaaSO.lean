import Derived.Test.YtogpgchfaalikaaSN
import Derived.Test.YtogpgchfaalikaaOU
namespace Go.Proofs.Ytogpgchfaalikaa
open Go.ChangeShapes Go.WideShapes Go.ChangeAt Go.RowKit Go.Deep
section
variable {H : Type} {enc : TypeId × Value → H} {P : Program} {w : World} {base : Nat} {spare : Nat → Bool} {held : Bool}
theorem int_cellB {t : TypeId} {n : Nat} {v : Value} {y : DataW H × List MemPlace} (ht : P.underlying t = some (.int .i64)) (h : DataW.trod enc P w base spare held n t [v] = some y) : ∃ z : Int, v = .int .i64 z ∧ z < 9223372036854775808 := by
  obtain ⟨z, h1, _, h2⟩ := DataW.trod_int ht h
  have h3 : -9223372036854775808 ≤ z ∧ z ≤ 9223372036854775807 := by simpa [Lit.wf, IntKind.min, IntKind.max, IntKind.signed, IntKind.bits] using h2
  exact ⟨z, by simpa using h1, by omega⟩
theorem u8_cell {t : TypeId} {n : Nat} {v : Value} {y : DataW H × List MemPlace} (ht : P.underlying t = some (.int .u8)) (h : DataW.trod enc P w base spare held n t [v] = some y) : ∃ z : Nat, v = .int .u8 (z : Int) ∧ z < 256 := by
  obtain ⟨z, h1, _, h2⟩ := DataW.trod_int ht h
  have h3 : 0 ≤ z ∧ z ≤ 255 := by simpa [Lit.wf, IntKind.min, IntKind.max, IntKind.signed, IntKind.bits] using h2
  refine ⟨z.toNat, ?_, by omega⟩
  simp at h1
  rw [h1]; congr 1; omega
theorem open_ops {t e : TypeId} {f0 f1 f2 f3 f4 f5 f6 f7 : Field} {tk ek : TypeId} {fuel : Nat} {cs : List Value} {x : DataW H × List MemPlace} (ht : P.underlying t = some (.slice e)) (he : P.underlying e = some (.struct #[f0, f1, f2, f3, f4, f5, f6, f7]))
    (ce : P.cellsOf e = 8) (o : f0.offset = 0 ∧ f1.offset = 1 ∧ f2.offset = 2 ∧ f3.offset = 3 ∧ f4.offset = 4 ∧ f5.offset = 5 ∧ f6.offset = 6 ∧ f7.offset = 7)
    (c : P.cellsOf f0.type = 1 ∧ P.cellsOf f1.type = 1 ∧ P.cellsOf f2.type = 1 ∧ P.cellsOf f3.type = 1 ∧ P.cellsOf f4.type = 1 ∧ P.cellsOf f5.type = 1 ∧ P.cellsOf f6.type = 1 ∧ P.cellsOf f7.type = 1)
    (u0 : P.underlying f0.type = some (.int .i64)) (u1 : P.underlying f1.type = some .bool) (u2 : P.underlying f2.type = some (.int .i64)) (u3 : P.underlying f3.type = some (.int .i64)) (u4 : P.underlying f4.type = some (.int .i64))
    (u5 : P.underlying f5.type = some (.int .u8)) (u6 : P.underlying f6.type = some (.int .i64)) (h7 : f7.type = tk) (u7 : P.underlying tk = some (.slice ek)) (v7 : P.underlying ek = some .bool) (w7 : P.cellsOf ek = 1)
    (hB : Rows.uptoBulk x.1 ≤ 1048576) (h : DataW.trod enc P w base spare held fuel t cs = some x) :
    ∃ (a : Option Addr) (len cap : Nat) (Z : Nat → Opr), cs = [.slice a len cap] ∧ len ≤ 1048576 ∧ IsOps w a len Z := by
  rcases open_slice ht h with ⟨rfl, _⟩ | ⟨a, len, cap, m, n, D, Pl, rfl, hb, hl, hm, hmm, rfl, hx⟩
  · exact ⟨none, 0, 0, fun _ => opr0, rfl, Nat.zero_le _, fun k hk => by omega⟩
  have hlm : len ≤ m := by rw [hmm]; split <;> omega
  obtain ⟨p0, p1, p2, p3, p4, p5, p6, p7⟩ := o
  obtain ⟨d0, d1, d2, d3, d4, d5, d6, d7⟩ := c
  have each : ∀ i, i < len → ∃ q : Opr, OpAt w a i q := by
    intro i hi
    obtain ⟨cs', h1, h2⟩ := hx i (by omega)
    rw [ce] at h1
    obtain ⟨_, hlen, hcell⟩ := World.cells?_some h1
    obtain ⟨xs, k, hk, hxy, _, hxl, hf⟩ := DataW.trod_struct he h2
    have hDi : Rows.uptoBulk (D i) ≤ 1048576 := Nat.le_trans (bulk_elem (List.mem_map.2 ⟨i, List.mem_range.2 hi, rfl⟩)) hB
    match xs, hxl, cs', hlen with
    | [y0, y1, y2, y3, y4, y5, y6, y7], _, [v0, v1, v2, v3, v4, v5, v6, v7'], _ =>
      have g0 := hf 0 f0 rfl
      have g1 := hf 1 f1 rfl
      have g2 := hf 2 f2 rfl
      have g3 := hf 3 f3 rfl
      have g4 := hf 4 f4 rfl
      have g5 := hf 5 f5 rfl
      have g6 := hf 6 f6 rfl
      have g7 := hf 7 f7 rfl
      simp [p0, p1, p2, p3, p4, p5, p6, p7, d0, d1, d2, d3, d4, d5, d6, d7] at g0 g1 g2 g3 g4 g5 g6 g7
      have hDe : D i = .agg ([y0, y1, y2, y3, y4, y5, y6, y7].map (·.1)) := (congrArg Prod.fst hxy)
      obtain ⟨z0, rfl, _⟩ := int_cellB u0 g0
      obtain ⟨z1, rfl⟩ := bool_cell u1 g1
      obtain ⟨z2, rfl, z21⟩ := int_cellB u2 g2
      obtain ⟨z3, rfl, _⟩ := int_cellB u3 g3
      obtain ⟨z4, rfl, _⟩ := int_cellB u4 g4
      obtain ⟨z5, rfl, z51⟩ := u8_cell u5 g5
      obtain ⟨z6, rfl, _⟩ := int_cellB u6 g6
      rw [h7] at g7
      obtain ⟨q7, ks, hq7, r7, l7⟩ := open_flags u7 v7 w7 g7
      simp at hq7
      subst hq7
      refine ⟨⟨z0, z1, z2, z3, z4, z5, z6, v7', ks⟩, ?_, ⟨z51, r7, ?_, z21⟩⟩
      · intro j v hj
        have hj8 : j < 8 := (List.getElem?_eq_some_iff.1 hj).1
        have e0 := hcell j hj8
        rw [add_add] at e0
        rw [e0]
        exact hj
      · have := bulk_agg (d := y7.1) (parts := [y0, y1, y2, y3, y4, y5, y6, y7].map (·.1)) (by simp)
        rw [← hDe] at this; simp only; omega
  have inh : Inhabited Opr := ⟨opr0⟩
  obtain ⟨Z, hZ⟩ := choose_lt each
  refine ⟨some a, len, cap, Z, rfl, ?_, fun k hk => ⟨a, rfl, hZ k hk⟩⟩
  have := bulk_slice ((List.range len).map D) ((List.range (m - len)).map fun j => D (len + j))
  simp at this hB; omega
end
end Go.Proofs.Ytogpgchfaalikaa
