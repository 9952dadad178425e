import Derived.Test.YtngmnlmagbfijabCP
import Derived.ProofKit
import Derived.OpenShut
import Derived.Deep.Slices
namespace Go.Proofs.Ytngmnlmagbfijab
open Go.ChangeShapes Go.WideShapes Go.ChangeAt Go.RowKit Go.Deep
section
variable {H : Type}
theorem bulk_one (d : DataW H) : 1 ≤ Rows.uptoBulk d := by
  cases d with
  | lit l => cases l <;> simp [Rows.uptoBulk]
  | nil => simp [Rows.uptoBulk]
  | ptr d => simp [Rows.uptoBulk]
  | slice elems spare => simp [Rows.uptoBulk]
  | agg parts => simp [Rows.uptoBulk]
  | iface t d => simp [Rows.uptoBulk]
  | map entries => simp [Rows.uptoBulk]
  | held h => simp [Rows.uptoBulk]
theorem bulk_part {d : DataW H} {l : List (DataW H)} (h : d ∈ l) : Rows.uptoBulk d ≤ Rows.uptoBulkAll l := by
  induction l with
  | nil => cases h
  | cons x r ih =>
    simp only [Rows.uptoBulkAll]
    cases List.mem_cons.1 h with
    | inl e => subst e; omega
    | inr e => have := ih e; omega
theorem bulk_length (l : List (DataW H)) : l.length ≤ Rows.uptoBulkAll l := by
  induction l with
  | nil => simp [Rows.uptoBulkAll]
  | cons x r ih => have := bulk_one x; simp only [Rows.uptoBulkAll, List.length_cons]; omega
theorem bulk_slice (elems spare : List (DataW H)) : elems.length + 1 ≤ Rows.uptoBulk (.slice elems spare) := by
  have h1 := bulk_length elems
  simp only [Rows.uptoBulk]; omega
theorem bulk_elems (elems spare : List (DataW H)) : Rows.uptoBulkAll elems + 1 ≤ Rows.uptoBulk (.slice elems spare) := by
  simp only [Rows.uptoBulk]; omega
theorem bulk_agg {d : DataW H} {parts : List (DataW H)} (h : d ∈ parts) : Rows.uptoBulk d + 1 ≤ Rows.uptoBulk (.agg parts) := by
  have h1 := bulk_part h
  simp only [Rows.uptoBulk]; omega
theorem cost_bulk (D : Nat → DataW H) : ∀ (n : Nat) (O : Nat → Og), (∀ i, i < n → (O i).R.length + 1 ≤ Rows.uptoBulk (D i)) → cost ((List.range n).map O) ≤ Rows.uptoBulkAll ((List.range n).map D) := by
  have app : ∀ (a b : List (DataW H)), Rows.uptoBulkAll (a ++ b) = Rows.uptoBulkAll a + Rows.uptoBulkAll b := by
    intro a b
    induction a with
    | nil => simp [Rows.uptoBulkAll]
    | cons x t ih => simp only [List.cons_append, Rows.uptoBulkAll, ih]; omega
  intro n
  induction n with
  | zero => intro O _; simp [cost]
  | succ n ih =>
    intro O h
    rw [List.range_succ, List.map_append, List.map_append, cost_app, app]
    have h1 := ih O (fun i hi => h i (by omega))
    have h2 := h n (by omega)
    have h3 : cost (List.map O [n]) = (O n).R.length + 1 := rfl
    have h4 : Rows.uptoBulkAll (List.map D [n]) = Rows.uptoBulk (D n) := by simp [Rows.uptoBulkAll]
    omega

variable {enc : TypeId × Value → H} {w : World} {base : Nat} {spare : Nat → Bool} {held : Bool}
theorem int_cell {t : TypeId} {n : Nat} {v : Value} {y : DataW H × List MemPlace} (ht : Try.prog.underlying t = some (.int .i64)) (h : DataW.trod enc Try.prog w base spare held n t [v] = some y) : ∃ z : Int, v = .int .i64 z ∧ I64 z := by
  obtain ⟨z, h1, h2⟩ := DataW.trod_int ht h
  have h3 := h2.2
  simp [Lit.wf, IntKind.min, IntKind.max, IntKind.signed, IntKind.bits] at h3
  exact ⟨z, by simpa using h1, by unfold I64; omega⟩
theorem rd_of {x : Addr} {len cap : Nat} {Z : Nat → Int} (hlc : len ≤ cap) (hx : ∀ i, i < len → w.cell? (x.add i) = some (.int .i64 (Z i))) : Rd (fun b => b < w.heap.size) w (.slice (some x) len cap) ((List.range len).map Z) := by
  refine .inr ⟨x, cap, by simp, by simpa using hlc, fun i u hu => ?_⟩
  have hi : i < len := by have := (List.getElem?_eq_some_iff.1 hu).1; simpa using this
  have hc : w.cell? (x.add i) = some u := by
    rw [hx i hi, ← hu]; simp [hi, Zi]
  have hb := World.block_lt_of_cell? w _ hc
  rw [blk_add] at hb
  exact ⟨hb, hc⟩
theorem open_ints {t e : TypeId} {fuel : Nat} {cs : List Value} {x : DataW H × List MemPlace} (ht : Try.prog.underlying t = some (.slice e)) (he : Try.prog.underlying e = some (.int .i64)) (ce : Try.prog.cellsOf e = 1)
    (h : DataW.trod enc Try.prog w base spare held fuel t cs = some x) : ∃ (v : Value) (zs : List Int), cs = [v] ∧ Rd (fun b => b < w.heap.size) w v zs ∧ zs.length + 1 ≤ Rows.uptoBulk x.1 ∧ ∀ z ∈ zs, I64 z := by
  rcases open_slice1 ht ce h with ⟨rfl, rfl⟩ | ⟨a, len, cap, m, n, V, D, Pl, rfl, hb, hl, hm, hmm, rfl, hx⟩
  · exact ⟨_, [], rfl, .inl ⟨rfl, rfl⟩, bulk_one _, fun z hz => by simp at hz⟩
  have hlm : len ≤ m := by rw [hmm]; split <;> omega
  have each : ∀ i, i < len → ∃ z : Int, V i = .int .i64 z ∧ I64 z := fun i hi => int_cell he (hx i (by omega)).2
  obtain ⟨Z, hZ⟩ := choose_lt each
  refine ⟨_, (List.range len).map Z, rfl, rd_of (by omega) (fun i hi => by rw [(hx i (by omega)).1, (hZ i hi).1]), ?_, fun z hz => ?_⟩
  · have := bulk_slice ((List.range len).map D) ((List.range (m - len)).map fun j => D (len + j))
    simpa using this
  · obtain ⟨i, hi, rfl⟩ := List.mem_map.1 hz
    exact (hZ i (List.mem_range.1 hi)).2
set_option maxRecDepth 20000 in
theorem open_op {n : Nat} {cs : List Value} {y : DataW H × List MemPlace} (hl : cs.length = 5) (h : DataW.trod enc Try.prog w base spare held n 33 cs = some y) :
    ∃ (o : Og) (u : Value), cs = [.int .i64 o.k, .int .i64 o.t, .int .i64 o.n, .int .i64 o.m, u] ∧ Rd (fun b => b < w.heap.size) w u o.R ∧ o.R.length + 1 ≤ Rows.uptoBulk y.1 ∧ I64 o.n ∧ ∀ z ∈ o.R, I64 z := by
  obtain ⟨xs, k, hk, hxy, _, hxl, hf⟩ := DataW.trod_struct Try.underlying33 h
  match xs, hxl with
  | [y0, y1, y2, y3, y4], _ =>
    have g0 := hf 0 _ rfl
    have g1 := hf 1 _ rfl
    have g2 := hf 2 _ rfl
    have g3 := hf 3 _ rfl
    have g4 := hf 4 _ rfl
    have e1 : Try.prog.cellsOf 3 = 1 := by kernel_rfl
    have e4 : Try.prog.cellsOf 31 = 1 := by kernel_rfl
    match cs, hl with
    | [v0, v1, v2, v3, v4], _ =>
      simp [e1, e4] at g0 g1 g2 g3 g4
      obtain ⟨z0, rfl, _⟩ := int_cell Try.underlying3 g0
      obtain ⟨z1, rfl, _⟩ := int_cell Try.underlying3 g1
      obtain ⟨z2, rfl, q2⟩ := int_cell Try.underlying3 g2
      obtain ⟨z3, rfl, _⟩ := int_cell Try.underlying3 g3
      obtain ⟨v, zs, hvb, hr, hlb, hz⟩ := open_ints Try.underlying31 Try.underlying3 e1 g4
      simp at hvb
      subst hvb
      have hDe : y.1 = .agg ([y0, y1, y2, y3, y4].map (·.1)) := congrArg Prod.fst hxy
      refine ⟨⟨z0, z1, z2, z3, zs⟩, _, rfl, hr, ?_, q2, hz⟩
      have := bulk_agg (d := y4.1) (parts := [y0, y1, y2, y3, y4].map (·.1)) (by simp)
      rw [← hDe] at this
      show zs.length + 1 ≤ _
      omega
theorem open_ops {fuel : Nat} {cs : List Value} {x : DataW H × List MemPlace} (h : DataW.trod enc Try.prog w base spare held fuel 22 cs = some x) :
    ∃ (v : Value) (os : List Og), cs = [v] ∧ OpR (fun b => b < w.heap.size) w v os ∧ Fit os ∧ cost os ≤ Rows.uptoBulk x.1 := by
  rcases open_slice Try.underlying22 h with ⟨rfl, rfl⟩ | ⟨a, len, cap, m, n, D, Pl, rfl, hb, hl, hm, hmm, rfl, hx⟩
  · exact ⟨_, [], rfl, ⟨none, 0, rfl, Nat.le_refl _, fun i o ho => by simp at ho⟩, fun o ho => by simp at ho, by simp [cost]⟩
  have hlm : len ≤ m := by rw [hmm]; split <;> omega
  have ce : Try.prog.cellsOf 33 = 5 := by kernel_rfl
  have each : ∀ i, i < len → ∃ p : Og × Value, (∀ (j : Nat) (v : Value), [Value.int .i64 p.1.k, .int .i64 p.1.t, .int .i64 p.1.n, .int .i64 p.1.m, p.2][j]? = some v → w.cell? ((a.add (i * 5)).add j) = some v) ∧ Rd (fun b => b < w.heap.size) w p.2 p.1.R ∧ p.1.R.length + 1 ≤ Rows.uptoBulk (D i) ∧ I64 p.1.n ∧ ∀ z ∈ p.1.R, I64 z := by
    intro i hi
    obtain ⟨cs', h1, h2⟩ := hx i (by omega)
    rw [ce] at h1
    obtain ⟨_, hlen, hcell⟩ := World.cells?_some h1
    obtain ⟨o, u, rfl, h3, h4, h5, h6⟩ := open_op (y := (D i, Pl i)) hlen h2
    refine ⟨(o, u), fun j v hv => ?_, h3, h4, h5, h6⟩
    have hj : j < 5 := by have := (List.getElem?_eq_some_iff.1 hv).1; simpa using this
    rw [hcell j hj]; exact hv
  haveI : Inhabited (Og × Value) := ⟨(⟨0, 0, 0, 0, []⟩, .slice none 0 0)⟩
  obtain ⟨O, hO⟩ := choose_lt each
  refine ⟨_, (List.range len).map (fun i => (O i).1), rfl, ⟨some a, cap, by simp, by simp; omega, fun i o ho => ?_⟩, fun o ho => ?_, ?_⟩
  · have hi : i < len := by have := (List.getElem?_eq_some_iff.1 ho).1; simpa using this
    have hoi : (O i).1 = o := by simpa [hi] using ho
    obtain ⟨h1, h2, _⟩ := hO i hi
    have c0 := h1 0 _ rfl
    have c1 := h1 1 _ rfl
    have c2 := h1 2 _ rfl
    have c3 := h1 3 _ rfl
    have c4 := h1 4 _ rfl
    rw [Addr.add_add] at c0 c1 c2 c3 c4
    rw [← hoi]
    have hbk := World.block_lt_of_cell? w _ c0
    rw [blk_add] at hbk
    exact ⟨a, (O i).2, rfl, hbk, c0, c1, c2, c3, c4, h2⟩
  · obtain ⟨i, hi, rfl⟩ := List.mem_map.1 ho
    exact (hO i (List.mem_range.1 hi)).2.2.2
  · have h1 := cost_bulk D len (fun i => (O i).1) (fun i hi => (hO i hi).2.2.1)
    have h2 := bulk_elems ((List.range len).map D) ((List.range (m - len)).map fun j => D (len + j))
    show _ ≤ Rows.uptoBulk (DataW.slice ((List.range len).map D) ((List.range (m - len)).map fun j => D (len + j)))
    omega
end
end Go.Proofs.Ytngmnlmagbfijab
