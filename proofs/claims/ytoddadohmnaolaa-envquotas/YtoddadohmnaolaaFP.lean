import Derived.Test.YtoddadohmnaolaaFO
import Derived.ProofKit
import Derived.OpenShut
import Derived.Deep.Slices
import Derived.Test.YtoddadohmnaolaaOI
namespace Go.Proofs.Ytoddadohmnaolaa
open Go.ChangeShapes Go.WideShapes Go.ChangeAt Go.RowKit Go.Deep

/-- a step that came in -/
structure Ov where
  kd : Int
  t : Int
  e : Int
  n : Int
  m : Int
  q : Qt
  g : Nat → Nat
  pc : Nat
  on : Bool
def Ov.cells (o : Ov) : List Value := [.int .i64 o.kd, .int .i64 o.t, .int .i64 o.e, .int .i64 o.n, .int .i64 o.m, .int .i64 o.q.f, .int .i64 o.q.e, .int .i64 o.q.x, .int .u32 (o.g 0 : Nat), .int .u32 (o.g 1 : Nat), .int .u32 (o.g 2 : Nat), .int .u32 (o.g 3 : Nat), .int .u32 (o.g 4 : Nat), .int .u32 (o.g 5 : Nat), .int .u32 (o.g 6 : Nat), .int .u32 (o.g 7 : Nat), .int .u32 (o.pc : Nat), .bool o.on]
def Ov.nil : Ov := ⟨0, 0, 0, 0, 0, Qt.zero, fun _ => 0, 0, false⟩
instance : Inhabited Ov := ⟨Ov.nil⟩
theorem ov_len (v : Ov) : v.cells.length = 18 := rfl
/-- steps that came in -/
def IsOps (w : World) (a : Option Addr) (len : Nat) (O : Nat → Ov) : Prop :=
  ∀ k, k < len → ∃ x, a = some x ∧ ∀ (j : Nat) (v : Value), (O k).cells[j]? = some v → w.cell? ((x.add (k * 18)).add j) = some v
theorem IsOps.below {w w' : World} {a : Option Addr} {len : Nat} {O : Nat → Ov} (h : IsOps w a len O) (hb : Below w.heap.size w w') : IsOps w' a len O := by
  intro k hk
  obtain ⟨x, h1, h2⟩ := h k hk
  refine ⟨x, h1, fun j v hv => ?_⟩
  have h3 := h2 j v hv
  rw [hb.cell (World.block_lt_of_cell? w _ h3)]; exact h3
section
variable {H : Type} {enc : TypeId × Value → H} {w : World} {base : Nat} {spare : Nat → Bool} {held : Bool}
theorem bool_cell {t : TypeId} {n : Nat} {v : Value} {y : DataW H × List MemPlace} (ht : Try.prog.underlying t = some .bool) (h : DataW.trod enc Try.prog w base spare held n t [v] = some y) : ∃ z : Bool, v = .bool z := by
  obtain ⟨z, h1, _⟩ := DataW.trod_bool ht h
  exact ⟨z, by simpa using h1⟩
theorem u32_cell {t : TypeId} {n : Nat} {v : Value} {y : DataW H × List MemPlace} (ht : Try.prog.underlying t = some (.int .u32)) (h : DataW.trod enc Try.prog w base spare held n t [v] = some y) : ∃ z : Nat, v = .int .u32 (z : Int) := by
  obtain ⟨z, h1, _, h2⟩ := DataW.trod_int ht h
  have h3 : 0 ≤ z ∧ z ≤ 4294967295 := by simpa [Lit.wf, IntKind.min, IntKind.max, IntKind.signed, IntKind.bits] using h2
  refine ⟨z.toNat, ?_⟩
  simp at h1
  rw [h1, Int.toNat_of_nonneg h3.1]
set_option maxRecDepth 20000 in
theorem open_op {n : Nat} {cs : List Value} {y : DataW H × List MemPlace} (hl : cs.length = 18) (h : DataW.trod enc Try.prog w base spare held n 47 cs = some y) : ∃ o : Ov, cs = o.cells := by
  obtain ⟨xs, k, hk, hxy, _, hxl, hf⟩ := DataW.trod_struct Try.underlying47 h
  match xs, hxl with
  | [y0, y1, y2, y3, y4, y5, y6, y7], _ =>
    have g0 := hf 0 _ rfl
    have g1 := hf 1 _ rfl
    have g2 := hf 2 _ rfl
    have g3 := hf 3 _ rfl
    have g4 := hf 4 _ rfl
    have g5 := hf 5 _ rfl
    have g6 := hf 6 _ rfl
    have g7 := hf 7 _ rfl
    have e1 : Try.prog.cellsOf 3 = 1 := by kernel_rfl
    have e2 : Try.prog.cellsOf 4 = 1 := by kernel_rfl
    have e3 : Try.prog.cellsOf 39 = 3 := by kernel_rfl
    have e4 : Try.prog.cellsOf 33 = 9 := by kernel_rfl
    have e5 : Try.prog.cellsOf 30 = 1 := by kernel_rfl
    have e6 : Try.prog.cellsOf 31 = 8 := by kernel_rfl
    match cs, hl with
    | [v0, v1, v2, v3, v4, a0, a1, a2, b0, b1, b2, b3, b4, b5, b6, b7, b8, vz], _ =>
      simp [e1, e2, e3, e4] at g0 g1 g2 g3 g4 g5 g6 g7
      obtain ⟨z0, rfl⟩ := int_cell Try.underlying3 g0
      obtain ⟨z1, rfl⟩ := int_cell Try.underlying3 g1
      obtain ⟨z2, rfl⟩ := int_cell Try.underlying3 g2
      obtain ⟨z3, rfl⟩ := int_cell Try.underlying3 g3
      obtain ⟨z4, rfl⟩ := int_cell Try.underlying3 g4
      obtain ⟨on, rfl⟩ := bool_cell Try.underlying4 g7
      obtain ⟨xs, k, hk, hxy, _, hxl, hf⟩ := DataW.trod_struct Try.underlying39 g5
      match xs, hxl with
      | [y0, y1, y2], _ =>
        have g0 := hf 0 _ rfl
        have g1 := hf 1 _ rfl
        have g2 := hf 2 _ rfl
        simp [e1] at g0 g1 g2
        obtain ⟨q0, rfl⟩ := int_cell Try.underlying3 g0
        obtain ⟨q1, rfl⟩ := int_cell Try.underlying3 g1
        obtain ⟨q2, rfl⟩ := int_cell Try.underlying3 g2
        obtain ⟨xs, k, hk, hxy, _, hxl, hf⟩ := DataW.trod_struct Try.underlying33 g6
        match xs, hxl with
        | [y0, y1], _ =>
          have g0 := hf 0 _ rfl
          have g1 := hf 1 _ rfl
          simp [e5, e6] at g0 g1
          obtain ⟨pc, rfl⟩ := u32_cell Try.underlying30 g1
          obtain ⟨xs, k, hk, hxy, _, hxl, hf⟩ := DataW.trod_array Try.underlying31 g0
          match xs, hxl with
          | [x0, x1, x2, x3, x4, x5, x6, x7], _ =>
            have d0 := hf 0 (by omega)
            have d1 := hf 1 (by omega)
            have d2 := hf 2 (by omega)
            have d3 := hf 3 (by omega)
            have d4 := hf 4 (by omega)
            have d5 := hf 5 (by omega)
            have d6 := hf 6 (by omega)
            have d7 := hf 7 (by omega)
            simp [e5] at d0 d1 d2 d3 d4 d5 d6 d7
            obtain ⟨r0, rfl⟩ := u32_cell Try.underlying30 d0
            obtain ⟨r1, rfl⟩ := u32_cell Try.underlying30 d1
            obtain ⟨r2, rfl⟩ := u32_cell Try.underlying30 d2
            obtain ⟨r3, rfl⟩ := u32_cell Try.underlying30 d3
            obtain ⟨r4, rfl⟩ := u32_cell Try.underlying30 d4
            obtain ⟨r5, rfl⟩ := u32_cell Try.underlying30 d5
            obtain ⟨r6, rfl⟩ := u32_cell Try.underlying30 d6
            obtain ⟨r7, rfl⟩ := u32_cell Try.underlying30 d7
            exact ⟨⟨z0, z1, z2, z3, z4, ⟨q0, q1, q2⟩, fun i => [r0, r1, r2, r3, r4, r5, r6, r7].getD i 0, pc, on⟩, rfl⟩
theorem open_ops {fuel : Nat} {cs : List Value} {x : DataW H × List MemPlace} (h : DataW.trod enc Try.prog w base spare held fuel 45 cs = some x) :
    ∃ (a : Option Addr) (len cap : Nat) (O : Nat → Ov), cs = [.slice a len cap] ∧ len ≤ maxLen ∧ IsOps w a len O := by
  rcases open_slice Try.underlying45 h with ⟨rfl, _⟩ | ⟨a, len, cap, m, n, D, Pl, rfl, hb, hl, hm, hmm, rfl, hx⟩
  · exact ⟨none, 0, 0, fun _ => Ov.nil, rfl, Nat.zero_le _, fun k hk => by omega⟩
  have hlm : len ≤ m := by rw [hmm]; split <;> omega
  have ce : Try.prog.cellsOf 47 = 18 := by kernel_rfl
  have each : ∀ i, i < len → ∃ o : Ov, ∀ (j : Nat) (v : Value), o.cells[j]? = some v → w.cell? ((a.add (i * 18)).add j) = some v := by
    intro i hi
    obtain ⟨cs', h1, h2⟩ := hx i (by omega)
    rw [ce] at h1
    obtain ⟨_, hlen, hcell⟩ := World.cells?_some h1
    obtain ⟨o, rfl⟩ := open_op hlen h2
    refine ⟨o, fun j v hv => ?_⟩
    have hj : j < 18 := by have := (List.getElem?_eq_some_iff.1 hv).1; rwa [ov_len] at this
    rw [hcell j hj]; exact hv
  obtain ⟨O, hO⟩ := choose_lt each
  exact ⟨some a, len, cap, O, rfl, Nat.le_trans hl hm, fun k hk => ⟨a, rfl, hO k hk⟩⟩
end
end Go.Proofs.Ytoddadohmnaolaa
