import Derived.Test.YtnpklhjndominaaD2
import Derived.ProofKit
import Derived.OpenShut
import Derived.Deep.Slices
namespace Go.Proofs.Ytnpklhjndominaa
open Go.ChangeShapes Go.WideShapes Go.ChangeAt Go.RowKit Go.Deep

/-- v is a slice whose elements read zs in w -/
def Rd (w : World) (v : Value) (zs : List Nat) : Prop :=
  (v = .slice none 0 0 ∧ zs = []) ∨ ∃ x cap, v = .slice (some x) zs.length cap ∧ ∀ i u, (zs.map By)[i]? = some u → w.cell? (x.add i) = some u
/-- the same of flags -/
def RdB (w : World) (v : Value) (zs : List Bool) : Prop :=
  (v = .slice none 0 0 ∧ zs = []) ∨ ∃ x cap, v = .slice (some x) zs.length cap ∧ ∀ i u, (zs.map Value.bool)[i]? = some u → w.cell? (x.add i) = some u
theorem Rd.below {w w' : World} {B : Nat} {v : Value} {zs : List Nat} (h : Rd w v zs) (hb : Below B w w') (hB : w.heap.size ≤ B) : Rd w' v zs := by
  rcases h with ⟨rfl, rfl⟩ | ⟨x, cap, rfl, hc⟩
  · exact .inl ⟨rfl, rfl⟩
  · refine .inr ⟨x, cap, rfl, fun i u hu => ?_⟩
    have h1 := hc i u hu
    have h2 := World.block_lt_of_cell? w _ h1
    rw [hb.cell (by omega)]; exact h1
theorem RdB.below {w w' : World} {B : Nat} {v : Value} {zs : List Bool} (h : RdB w v zs) (hb : Below B w w') (hB : w.heap.size ≤ B) : RdB w' v zs := by
  rcases h with ⟨rfl, rfl⟩ | ⟨x, cap, rfl, hc⟩
  · exact .inl ⟨rfl, rfl⟩
  · refine .inr ⟨x, cap, rfl, fun i u hu => ?_⟩
    have h1 := hc i u hu
    have h2 := World.block_lt_of_cell? w _ h1
    rw [hb.cell (by omega)]; exact h1
theorem Rd.len {w : World} {v : Value} {zs : List Nat} (h : Rd w v zs) : ∃ ao cap, v = .slice ao zs.length cap := by
  rcases h with ⟨rfl, rfl⟩ | ⟨x, cap, rfl, _⟩
  · exact ⟨_, _, rfl⟩
  · exact ⟨_, _, rfl⟩
theorem RdB.len {w : World} {v : Value} {zs : List Bool} (h : RdB w v zs) : ∃ ao cap, v = .slice ao zs.length cap := by
  rcases h with ⟨rfl, rfl⟩ | ⟨x, cap, rfl, _⟩
  · exact ⟨_, _, rfl⟩
  · exact ⟨_, _, rfl⟩

section
variable {H : Type}
theorem bulk_one (d : DataW H) : 1 ≤ Rows.uptoBulk d := by
  cases d with
  | lit l => cases l <;> simp [Rows.uptoBulk]
  | nil => simp [Rows.uptoBulk]
  | ptr d => simp [Rows.uptoBulk]
  | slice elems spare => simp [Rows.uptoBulk]
  | agg parts => simp [Rows.uptoBulk]
  | iface t d => simp [Rows.uptoBulk]
  | map entries => simp [Rows.uptoBulk]
  | held h => simp [Rows.uptoBulk]
theorem bulk_part {d : DataW H} {l : List (DataW H)} (h : d ∈ l) : Rows.uptoBulk d ≤ Rows.uptoBulkAll l := by
  induction l with
  | nil => cases h
  | cons x r ih =>
    simp only [Rows.uptoBulkAll]
    cases List.mem_cons.1 h with
    | inl e => subst e; omega
    | inr e => have := ih e; omega
theorem bulk_length (l : List (DataW H)) : l.length ≤ Rows.uptoBulkAll l := by
  induction l with
  | nil => simp [Rows.uptoBulkAll]
  | cons x r ih => have := bulk_one x; simp only [Rows.uptoBulkAll, List.length_cons]; omega
theorem bulk_slice (elems spare : List (DataW H)) : elems.length ≤ Rows.uptoBulk (.slice elems spare) := by
  have h1 := bulk_length elems
  simp only [Rows.uptoBulk]; omega
theorem bulk_elem {d : DataW H} {elems spare : List (DataW H)} (h : d ∈ elems) : Rows.uptoBulk d ≤ Rows.uptoBulk (.slice elems spare) := by
  have h1 := bulk_part h
  simp only [Rows.uptoBulk]; omega
theorem bulk_agg {d : DataW H} {parts : List (DataW H)} (h : d ∈ parts) : Rows.uptoBulk d ≤ Rows.uptoBulk (.agg parts) := by
  have h1 := bulk_part h
  simp only [Rows.uptoBulk]; omega

variable {enc : TypeId × Value → H} {P : Program} {w : World} {base : Nat} {spare : Nat → Bool} {held : Bool}
theorem int_cell {t : TypeId} {n : Nat} {v : Value} {y : DataW H × List MemPlace} (ht : P.underlying t = some (.int .i64)) (h : DataW.trod enc P w base spare held n t [v] = some y) : ∃ z : Int, v = .int .i64 z ∧ -9223372036854775808 ≤ z ∧ z ≤ 9223372036854775807 := by
  obtain ⟨z, h1, _, h2⟩ := DataW.trod_int ht h
  exact ⟨z, by simpa using h1, by simpa [Lit.wf, IntKind.min, IntKind.max, IntKind.signed, IntKind.bits] using h2⟩
theorem u8_cell {t : TypeId} {n : Nat} {v : Value} {y : DataW H × List MemPlace} (ht : P.underlying t = some (.int .u8)) (h : DataW.trod enc P w base spare held n t [v] = some y) : ∃ z : Nat, v = By z ∧ z < 256 := by
  obtain ⟨z, h1, _, h2⟩ := DataW.trod_int ht h
  have h3 : 0 ≤ z ∧ z ≤ 255 := by simpa [Lit.wf, IntKind.min, IntKind.max, IntKind.signed, IntKind.bits] using h2
  refine ⟨z.toNat, ?_, by omega⟩
  simp at h1
  rw [h1, By]; congr 1; omega
theorem bool_cell {t : TypeId} {n : Nat} {v : Value} {y : DataW H × List MemPlace} (ht : P.underlying t = some .bool) (h : DataW.trod enc P w base spare held n t [v] = some y) : ∃ z : Bool, v = .bool z := by
  obtain ⟨z, h1, _⟩ := DataW.trod_bool ht h
  exact ⟨z, by simpa using h1⟩
theorem open_bytes {t e : TypeId} {fuel : Nat} {cs : List Value} {x : DataW H × List MemPlace} (ht : P.underlying t = some (.slice e)) (he : P.underlying e = some (.int .u8)) (ce : P.cellsOf e = 1)
    (h : DataW.trod enc P w base spare held fuel t cs = some x) : ∃ v zs, cs = [v] ∧ Rd w v zs ∧ (∀ z ∈ zs, z < 256) ∧ zs.length ≤ Rows.uptoBulk x.1 := by
  rcases open_slice1 ht ce h with ⟨rfl, _⟩ | ⟨a, len, cap, m, n, V, D, Pl, rfl, hb, hl, hm, hmm, rfl, hx⟩
  · exact ⟨_, [], rfl, .inl ⟨rfl, rfl⟩, by simp, by simp⟩
  have hlm : len ≤ m := by rw [hmm]; split <;> omega
  have each : ∀ i, i < len → ∃ z : Nat, V i = By z ∧ z < 256 := fun i hi => u8_cell he (hx i (by omega)).2
  obtain ⟨Z, hZ⟩ := choose_lt each
  refine ⟨_, (List.range len).map Z, rfl, .inr ⟨a, cap, by simp, fun i u hu => ?_⟩, ?_, ?_⟩
  · have hi : i < len := by have := (List.getElem?_eq_some_iff.1 hu).1; simpa using this
    rw [(hx i (by omega)).1, (hZ i hi).1, ← hu]; simp [hi]
  · intro z hz; simp at hz; obtain ⟨i, hi, rfl⟩ := hz; exact (hZ i hi).2
  · have := bulk_slice ((List.range len).map D) ((List.range (m - len)).map fun j => D (len + j))
    simpa using this
theorem open_fit {t e : TypeId} {fuel : Nat} {v : Value} {x : DataW H × List MemPlace} (ht : P.underlying t = some (.slice e)) (ce : P.cellsOf e = 1)
    (h : DataW.trod enc P w base spare held fuel t [v] = some x) : ∀ (y : Addr) (n c : Nat), v = .slice (some y) n c → n ≤ c := by
  intro y n c hv
  rcases open_slice1 ht ce h with ⟨h0, _⟩ | ⟨a, len, cap, m, n', V, D, Pl, h0, hb, hl, _⟩
  · rw [hv] at h0; cases h0
  · rw [hv] at h0; cases h0; exact hl
theorem open_flags {t e : TypeId} {fuel : Nat} {cs : List Value} {x : DataW H × List MemPlace} (ht : P.underlying t = some (.slice e)) (he : P.underlying e = some .bool) (ce : P.cellsOf e = 1)
    (h : DataW.trod enc P w base spare held fuel t cs = some x) : ∃ v zs, cs = [v] ∧ RdB w v zs ∧ zs.length ≤ Rows.uptoBulk x.1 := by
  rcases open_slice1 ht ce h with ⟨rfl, _⟩ | ⟨a, len, cap, m, n, V, D, Pl, rfl, hb, hl, hm, hmm, rfl, hx⟩
  · exact ⟨_, [], rfl, .inl ⟨rfl, rfl⟩, by simp⟩
  have hlm : len ≤ m := by rw [hmm]; split <;> omega
  have each : ∀ i, i < len → ∃ z : Bool, V i = .bool z := fun i hi => bool_cell he (hx i (by omega)).2
  obtain ⟨Z, hZ⟩ := choose_lt each
  refine ⟨_, (List.range len).map Z, rfl, .inr ⟨a, cap, by simp, fun i u hu => ?_⟩, ?_⟩
  · have hi : i < len := by have := (List.getElem?_eq_some_iff.1 hu).1; simpa using this
    rw [(hx i (by omega)).1, hZ i hi, ← hu]; simp [hi]
  · have := bulk_slice ((List.range len).map D) ((List.range (m - len)).map fun j => D (len + j))
    simpa using this

/-- a write that came in: a number and a byte -/
def IsPuts (w : World) (a : Option Addr) (len : Nat) (Z : Nat → Int × Nat) : Prop :=
  ∀ k, k < len → ∃ x, a = some x ∧ w.cell? (x.add (k * 2)) = some (.int .i64 (Z k).1) ∧ w.cell? (x.add (k * 2 + 1)) = some (By (Z k).2) ∧ (Z k).2 < 256 ∧ -9223372036854775808 ≤ (Z k).1 ∧ (Z k).1 ≤ 9223372036854775807
theorem open_puts {t e : TypeId} {f0 f1 : Field} {fuel : Nat} {cs : List Value} {x : DataW H × List MemPlace} (ht : P.underlying t = some (.slice e)) (he : P.underlying e = some (.struct #[f0, f1]))
    (ce : P.cellsOf e = 2) (o0 : f0.offset = 0) (o1 : f1.offset = 1) (c0 : P.cellsOf f0.type = 1) (c1 : P.cellsOf f1.type = 1)
    (u0 : P.underlying f0.type = some (.int .i64)) (u1 : P.underlying f1.type = some (.int .u8))
    (h : DataW.trod enc P w base spare held fuel t cs = some x) :
    ∃ (a : Option Addr) (len cap : Nat) (Z : Nat → Int × Nat), cs = [.slice a len cap] ∧ len ≤ Rows.uptoBulk x.1 ∧ IsPuts w a len Z := by
  rcases open_slice ht h with ⟨rfl, _⟩ | ⟨a, len, cap, m, n, D, Pl, rfl, hb, hl, hm, hmm, rfl, hx⟩
  · exact ⟨none, 0, 0, fun _ => (0, 0), rfl, Nat.zero_le _, fun k hk => by omega⟩
  have hlm : len ≤ m := by rw [hmm]; split <;> omega
  have each : ∀ i, i < len → ∃ q : Int × Nat, w.cell? (a.add (i * 2)) = some (.int .i64 q.1) ∧ w.cell? (a.add (i * 2 + 1)) = some (By q.2) ∧ q.2 < 256 ∧ -9223372036854775808 ≤ q.1 ∧ q.1 ≤ 9223372036854775807 := by
    intro i hi
    obtain ⟨cs', h1, h2⟩ := hx i (by omega)
    rw [ce] at h1
    obtain ⟨_, hlen, hcell⟩ := World.cells?_some h1
    obtain ⟨xs, k, hk, hxy, _, hxl, hf⟩ := DataW.trod_struct he h2
    match xs, hxl, cs', hlen with
    | [y0, y1], _, [v0, v1], _ =>
      have g0 := hf 0 f0 rfl
      have g1 := hf 1 f1 rfl
      simp [o0, o1, c0, c1] at g0 g1
      have e0 := hcell 0 (by omega)
      have e1 := hcell 1 (by omega)
      rw [add_add] at e0 e1
      obtain ⟨z0, rfl, z1, z2⟩ := int_cell u0 g0
      obtain ⟨b0, rfl, b1⟩ := u8_cell u1 g1
      exact ⟨(z0, b0), by simpa using e0, by simpa using e1, b1, z1, z2⟩
  obtain ⟨Z, hZ⟩ := choose_lt each
  refine ⟨some a, len, cap, Z, rfl, ?_, fun k hk => ⟨a, rfl, hZ k hk⟩⟩
  have := bulk_slice ((List.range len).map D) ((List.range (m - len)).map fun j => D (len + j))
  simpa using this

/-- a call that came in -/
structure Opr where
  kind : Int
  two : Bool
  sec : Int
  at' : Int
  data : Value
  zs : List Nat
  fill : Bool
  keep : Value
  ks : List Bool
def opr0 : Opr := ⟨0, false, 0, 0, .slice none 0 0, [], false, .slice none 0 0, []⟩
structure OpAt (w : World) (x : Addr) (k : Nat) (o : Opr) : Prop where
  c0 : w.cell? (x.add (k * 7)) = some (.int .i64 o.kind)
  c1 : w.cell? (x.add (k * 7 + 1)) = some (.bool o.two)
  c2 : w.cell? (x.add (k * 7 + 2)) = some (.int .i64 o.sec)
  c3 : w.cell? (x.add (k * 7 + 3)) = some (.int .i64 o.at')
  c4 : w.cell? (x.add (k * 7 + 4)) = some o.data
  c5 : w.cell? (x.add (k * 7 + 5)) = some (.bool o.fill)
  c6 : w.cell? (x.add (k * 7 + 6)) = some o.keep
  rd : Rd w o.data o.zs
  by8 : ∀ z ∈ o.zs, z < 256
  rb : RdB w o.keep o.ks
  zl : o.zs.length ≤ 1048576
  kl : o.ks.length ≤ 1048576
  k1 : -9223372036854775808 ≤ o.kind ∧ o.kind ≤ 9223372036854775807
  s1 : -9223372036854775808 ≤ o.sec ∧ o.sec ≤ 9223372036854775807
  a1 : -9223372036854775808 ≤ o.at' ∧ o.at' ≤ 9223372036854775807
  ft : ∀ (y : Addr) (n c : Nat), o.data = .slice (some y) n c → n ≤ c
def IsOps (w : World) (a : Option Addr) (len : Nat) (Z : Nat → Opr) : Prop := ∀ k, k < len → ∃ x, a = some x ∧ OpAt w x k (Z k)
theorem OpAt.below {w w' : World} {x : Addr} {k B : Nat} {o : Opr} (h : OpAt w x k o) (hb : Below B w w') (hB : w.heap.size ≤ B) : OpAt w' x k o := by
  have e : ∀ {a : Addr} {v : Value}, w.cell? a = some v → w'.cell? a = some v := fun {a v} h1 => by
    have h2 := World.block_lt_of_cell? w _ h1
    rw [hb.cell (by omega)]; exact h1
  exact ⟨e h.c0, e h.c1, e h.c2, e h.c3, e h.c4, e h.c5, e h.c6, h.rd.below hb hB, h.by8, h.rb.below hb hB, h.zl, h.kl, h.k1, h.s1, h.a1, h.ft⟩
theorem open_ops {t e : TypeId} {f0 f1 f2 f3 f4 f5 f6 : Field} {tb eb tk ek : TypeId} {fuel : Nat} {cs : List Value} {x : DataW H × List MemPlace} (ht : P.underlying t = some (.slice e)) (he : P.underlying e = some (.struct #[f0, f1, f2, f3, f4, f5, f6]))
    (ce : P.cellsOf e = 7) (o : f0.offset = 0 ∧ f1.offset = 1 ∧ f2.offset = 2 ∧ f3.offset = 3 ∧ f4.offset = 4 ∧ f5.offset = 5 ∧ f6.offset = 6)
    (c : P.cellsOf f0.type = 1 ∧ P.cellsOf f1.type = 1 ∧ P.cellsOf f2.type = 1 ∧ P.cellsOf f3.type = 1 ∧ P.cellsOf f4.type = 1 ∧ P.cellsOf f5.type = 1 ∧ P.cellsOf f6.type = 1)
    (u0 : P.underlying f0.type = some (.int .i64)) (u1 : P.underlying f1.type = some .bool) (u2 : P.underlying f2.type = some (.int .i64)) (u3 : P.underlying f3.type = some (.int .i64))
    (h4 : f4.type = tb) (u4 : P.underlying tb = some (.slice eb)) (v4 : P.underlying eb = some (.int .u8)) (w4 : P.cellsOf eb = 1) (u5 : P.underlying f5.type = some .bool)
    (h6 : f6.type = tk) (u6 : P.underlying tk = some (.slice ek)) (v6 : P.underlying ek = some .bool) (w6 : P.cellsOf ek = 1)
    (hB : Rows.uptoBulk x.1 ≤ 1048576) (h : DataW.trod enc P w base spare held fuel t cs = some x) :
    ∃ (a : Option Addr) (len cap : Nat) (Z : Nat → Opr), cs = [.slice a len cap] ∧ len ≤ 1048576 ∧ IsOps w a len Z := by
  rcases open_slice ht h with ⟨rfl, _⟩ | ⟨a, len, cap, m, n, D, Pl, rfl, hb, hl, hm, hmm, rfl, hx⟩
  · exact ⟨none, 0, 0, fun _ => opr0, rfl, Nat.zero_le _, fun k hk => by omega⟩
  have hlm : len ≤ m := by rw [hmm]; split <;> omega
  obtain ⟨p0, p1, p2, p3, p4, p5, p6⟩ := o
  obtain ⟨d0, d1, d2, d3, d4, d5, d6⟩ := c
  have each : ∀ i, i < len → ∃ q : Opr, OpAt w a i q := by
    intro i hi
    obtain ⟨cs', h1, h2⟩ := hx i (by omega)
    rw [ce] at h1
    obtain ⟨_, hlen, hcell⟩ := World.cells?_some h1
    obtain ⟨xs, k, hk, hxy, _, hxl, hf⟩ := DataW.trod_struct he h2
    have hDi : Rows.uptoBulk (D i) ≤ 1048576 := Nat.le_trans (bulk_elem (List.mem_map.2 ⟨i, List.mem_range.2 hi, rfl⟩)) hB
    match xs, hxl, cs', hlen with
    | [y0, y1, y2, y3, y4, y5, y6], _, [v0, v1, v2, v3, v4', v5, v6'], _ =>
      have g0 := hf 0 f0 rfl
      have g1 := hf 1 f1 rfl
      have g2 := hf 2 f2 rfl
      have g3 := hf 3 f3 rfl
      have g4 := hf 4 f4 rfl
      have g5 := hf 5 f5 rfl
      have g6 := hf 6 f6 rfl
      simp [p0, p1, p2, p3, p4, p5, p6, d0, d1, d2, d3, d4, d5, d6] at g0 g1 g2 g3 g4 g5 g6
      have hDe : D i = .agg ([y0, y1, y2, y3, y4, y5, y6].map (·.1)) := (congrArg Prod.fst hxy)
      have e0 := hcell 0 (by omega)
      have e1 := hcell 1 (by omega)
      have e2 := hcell 2 (by omega)
      have e3 := hcell 3 (by omega)
      have e4 := hcell 4 (by omega)
      have e5 := hcell 5 (by omega)
      have e6 := hcell 6 (by omega)
      rw [add_add] at e0 e1 e2 e3 e4 e5 e6
      obtain ⟨z0, rfl, z01⟩ := int_cell u0 g0
      obtain ⟨z1, rfl⟩ := bool_cell u1 g1
      obtain ⟨z2, rfl, z21⟩ := int_cell u2 g2
      obtain ⟨z3, rfl, z31⟩ := int_cell u3 g3
      obtain ⟨z5, rfl⟩ := bool_cell u5 g5
      rw [h4] at g4
      rw [h6] at g6
      have ff := open_fit u4 w4 g4
      obtain ⟨q4, zs, hq4, r4, b4, l4⟩ := open_bytes u4 v4 w4 g4
      obtain ⟨q6, ks, hq6, r6, l6⟩ := open_flags u6 v6 w6 g6
      simp at hq4 hq6
      subst hq4; subst hq6
      refine ⟨⟨z0, z1, z2, z3, v4', zs, z5, v6', ks⟩, by simpa using e0, by simpa using e1, by simpa using e2, by simpa using e3, by simpa using e4, by simpa using e5, by simpa using e6, r4, b4, r6, ?_, ?_, z01, z21, z31, ff⟩
      · have := bulk_agg (d := y4.1) (parts := [y0, y1, y2, y3, y4, y5, y6].map (·.1)) (by simp)
        rw [← hDe] at this; simp only; omega
      · have := bulk_agg (d := y6.1) (parts := [y0, y1, y2, y3, y4, y5, y6].map (·.1)) (by simp)
        rw [← hDe] at this; simp only; omega
  have inh : Inhabited Opr := ⟨opr0⟩
  obtain ⟨Z, hZ⟩ := choose_lt each
  refine ⟨some a, len, cap, Z, rfl, ?_, fun k hk => ⟨a, rfl, hZ k hk⟩⟩
  have := bulk_slice ((List.range len).map D) ((List.range (m - len)).map fun j => D (len + j))
  simp at this hB; omega
end
end Go.Proofs.Ytnpklhjndominaa
