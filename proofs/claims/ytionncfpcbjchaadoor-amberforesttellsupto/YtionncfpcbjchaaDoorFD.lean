import Derived.Test.YtionncfpcbjchaaDoorF8
import Derived.ProofKit
import Derived.OpenShut
import Derived.Deep.Slices
namespace Go.Proofs.YtionncfpcbjchaaDoor
open Go.ChangeShapes Go.WideShapes Go.ChangeAt Go.RowKit Go.Deep
section
variable {H : Type}
theorem bulk_one (d : DataW H) : 1 ≤ Rows.uptoBulk d := by
  cases d with
  | lit l => cases l <;> simp [Rows.uptoBulk]
  | nil => simp [Rows.uptoBulk]
  | ptr d => simp [Rows.uptoBulk]
  | slice elems spare => simp [Rows.uptoBulk]
  | agg parts => simp [Rows.uptoBulk]
  | iface t d => simp [Rows.uptoBulk]
  | map entries => simp [Rows.uptoBulk]
  | held h => simp [Rows.uptoBulk]
theorem bulk_length (l : List (DataW H)) : l.length ≤ Rows.uptoBulkAll l := by
  induction l with
  | nil => simp [Rows.uptoBulkAll]
  | cons x r ih => have := bulk_one x; simp only [Rows.uptoBulkAll, List.length_cons]; omega
theorem bulk_slice (elems spare : List (DataW H)) : elems.length ≤ Rows.uptoBulk (.slice elems spare) := by
  have h1 := bulk_length elems
  simp only [Rows.uptoBulk]; omega
variable {enc : TypeId × Value → H} {w : World} {base : Nat} {spare : Nat → Bool} {held : Bool}
theorem int_cell {t : TypeId} {n : Nat} {v : Value} {y : DataW H × List MemPlace} (ht : Tryd.prog.underlying t = some (.int .i64)) (h : DataW.trod enc Tryd.prog w base spare held n t [v] = some y) : ∃ z : Int, v = .int .i64 z ∧ I64 z := by
  obtain ⟨z, h1, _, h2⟩ := DataW.trod_int ht h
  exact ⟨z, by simpa using h1, by simpa [Lit.wf, IntKind.min, IntKind.max, IntKind.signed, IntKind.bits, I64] using h2⟩
theorem u32_cell {t : TypeId} {n : Nat} {v : Value} {y : DataW H × List MemPlace} (ht : Tryd.prog.underlying t = some (.int .u32)) (h : DataW.trod enc Tryd.prog w base spare held n t [v] = some y) : ∃ z : Nat, v = .int .u32 (z : Nat) ∧ z < 4294967296 := by
  obtain ⟨z, h1, _, h2⟩ := DataW.trod_int ht h
  have h3 : 0 ≤ z ∧ z ≤ 4294967295 := by simpa [Lit.wf, IntKind.min, IntKind.max, IntKind.signed, IntKind.bits] using h2
  refine ⟨z.toNat, ?_, by omega⟩
  simp at h1
  rw [h1]; congr 1; omega
theorem bool_cell {t : TypeId} {n : Nat} {v : Value} {y : DataW H × List MemPlace} (ht : Tryd.prog.underlying t = some .bool) (h : DataW.trod enc Tryd.prog w base spare held n t [v] = some y) : ∃ z : Bool, v = .bool z := by
  obtain ⟨z, h1, _⟩ := DataW.trod_bool ht h
  exact ⟨z, by simpa using h1⟩
/-- an array of words -/
theorem open_words {t : TypeId} {n fuel : Nat} {cs : List Value} {x : DataW H × List MemPlace} (ht : Tryd.prog.underlying t = some (.array n 32)) (hn : Tryd.prog.cellsOf t = n) (h : DataW.trod enc Tryd.prog w base spare held fuel t cs = some x) :
    ∃ W : List Nat, cs = rgL W ∧ W.length = n ∧ ∀ m ∈ W, m < 4294967296 := by
  obtain ⟨xs, m, _, _, hl, hxl, hf⟩ := DataW.trod_array ht h
  have e1 : Tryd.prog.cellsOf 32 = 1 := by kernel_rfl
  rw [hn] at hl
  have each : ∀ i, i < n → ∃ z : Nat, cs[i]? = some (.int .u32 (z : Nat)) ∧ z < 4294967296 := by
    intro i hi
    have := hf i hi
    rw [e1, Nat.mul_one] at this
    obtain ⟨y, hy⟩ : ∃ y, xs[i]? = some y := ⟨_, List.getElem?_eq_getElem (by omega)⟩
    rw [hy] at this
    obtain ⟨z, h1, _, h2⟩ := DataW.trod_int Tryd.underlying32 this
    have h3 : 0 ≤ z ∧ z ≤ 4294967295 := by simpa [Lit.wf, IntKind.min, IntKind.max, IntKind.signed, IntKind.bits] using h2
    refine ⟨z.toNat, ?_, by omega⟩
    have h5 := congrArg (fun l => l[0]?) h1
    simp only [List.getElem?_take_of_lt (Nat.lt_succ_self 0), List.getElem?_drop, Nat.add_zero, List.getElem?_cons_zero] at h5
    rw [h5]
    congr 2; omega
  obtain ⟨p, hp⟩ := choose_lt each
  refine ⟨(List.range n).map p, ?_, by simp, fun m hm => ?_⟩
  · apply List.ext_getElem?
    intro i
    by_cases hi : i < n
    · rw [(hp i hi).1, rgL_get (W := (List.range n).map p) (i := i) (z := p i) (by simp [hi])]
    · rw [List.getElem?_eq_none (by omega), List.getElem?_eq_none (by simp [rgL]; omega)]
  · simp at hm
    obtain ⟨i, hi, rfl⟩ := hm
    exact (hp i hi).2
theorem open_regs {fuel : Nat} {cs : List Value} {x : DataW H × List MemPlace} (h : DataW.trod enc Tryd.prog w base spare held fuel 35 cs = some x) :
    ∃ (W : List Nat) (p : Nat), cs = rgL (W ++ [p]) ∧ W.length = 8 ∧ ∀ n ∈ W ++ [p], n < 4294967296 := by
  obtain ⟨xs, k, hk, hxy, hl, hxl, hf⟩ := DataW.trod_struct Tryd.underlying35 h
  have e9 : Tryd.prog.cellsOf 35 = 9 := by kernel_rfl
  have e8 : Tryd.prog.cellsOf 33 = 8 := by kernel_rfl
  have e1 : Tryd.prog.cellsOf 32 = 1 := by kernel_rfl
  rw [e9] at hl
  match xs, hxl with
  | [y0, y1], _ =>
    have g0 := hf 0 _ rfl
    have g1 := hf 1 _ rfl
    match cs, hl with
    | [v0, v1, v2, v3, v4, v5, v6, v7, v8], _ =>
      simp [e8, e1] at g0 g1
      obtain ⟨W, hW, hn, hb⟩ := open_words Tryd.underlying33 e8 g0
      obtain ⟨p, rfl, hp⟩ := u32_cell Tryd.underlying32 g1
      refine ⟨W, p, ?_, hn, fun n hn' => ?_⟩
      · rw [rgL, List.map_append, ← rgL, ← hW]; rfl
      · rcases List.mem_append.1 hn' with h9 | h9
        · exact hb n h9
        · simp at h9; rw [h9]; exact hp
theorem open_quota {fuel : Nat} {cs : List Value} {x : DataW H × List MemPlace} (h : DataW.trod enc Tryd.prog w base spare held fuel 37 cs = some x) :
    ∃ a b c : Int, cs = [.int .i64 a, .int .i64 b, .int .i64 c] ∧ I64 a ∧ I64 b ∧ I64 c := by
  obtain ⟨xs, k, hk, hxy, hl, hxl, hf⟩ := DataW.trod_struct Tryd.underlying37 h
  have e3 : Tryd.prog.cellsOf 37 = 3 := by kernel_rfl
  have e1 : Tryd.prog.cellsOf 3 = 1 := by kernel_rfl
  rw [e3] at hl
  match xs, hxl, cs, hl with
  | [y0, y1, y2], _, [v0, v1, v2], _ =>
    have g0 := hf 0 _ rfl
    have g1 := hf 1 _ rfl
    have g2 := hf 2 _ rfl
    simp [e1] at g0 g1 g2
    obtain ⟨a, rfl, ha⟩ := int_cell Tryd.underlying3 g0
    obtain ⟨b, rfl, hb⟩ := int_cell Tryd.underlying3 g1
    obtain ⟨c, rfl, hc⟩ := int_cell Tryd.underlying3 g2
    exact ⟨a, b, c, rfl, ha, hb, hc⟩
theorem open_place {fuel : Nat} {cs : List Value} {x : DataW H × List MemPlace} (h : DataW.trod enc Tryd.prog w base spare held fuel 41 cs = some x) :
    ∃ a b : Int, cs = [.int .i64 a, .int .i64 b] ∧ I64 a ∧ I64 b := by
  obtain ⟨xs, k, hk, hxy, hl, hxl, hf⟩ := DataW.trod_struct Tryd.underlying41 h
  have e3 : Tryd.prog.cellsOf 41 = 2 := by kernel_rfl
  have e1 : Tryd.prog.cellsOf 3 = 1 := by kernel_rfl
  rw [e3] at hl
  match xs, hxl, cs, hl with
  | [y0, y1], _, [v0, v1], _ =>
    have g0 := hf 0 _ rfl
    have g1 := hf 1 _ rfl
    simp [e1] at g0 g1
    obtain ⟨a, rfl, ha⟩ := int_cell Tryd.underlying3 g0
    obtain ⟨b, rfl, hb⟩ := int_cell Tryd.underlying3 g1
    exact ⟨a, b, rfl, ha, hb⟩
theorem open_env {fuel : Nat} {cs : List Value} {x : DataW H × List MemPlace} (h : DataW.trod enc Tryd.prog w base spare held fuel 39 cs = some x) : ∃ e : EnG, cs = e.cells ∧ e.Ok := by
  obtain ⟨xs, k, hk, hxy, hl, hxl, hf⟩ := DataW.trod_struct Tryd.underlying39 h
  have e17 : Tryd.prog.cellsOf 39 = 17 := by kernel_rfl
  have e9 : Tryd.prog.cellsOf 35 = 9 := by kernel_rfl
  have e3 : Tryd.prog.cellsOf 37 = 3 := by kernel_rfl
  have e1 : Tryd.prog.cellsOf 3 = 1 := by kernel_rfl
  have e0 : Tryd.prog.cellsOf 4 = 1 := by kernel_rfl
  rw [e17] at hl
  match xs, hxl, cs, hl with
  | [y0, y1, y2, y3, y4, y5, y6], _, [v0, v1, v2, v3, v4, v5, v6, v7, v8, v9, v10, v11, v12, v13, v14, v15, v16], _ =>
    have g0 := hf 0 _ rfl
    have g1 := hf 1 _ rfl
    have g2 := hf 2 _ rfl
    have g3 := hf 3 _ rfl
    have g4 := hf 4 _ rfl
    have g5 := hf 5 _ rfl
    have g6 := hf 6 _ rfl
    simp [e1, e0, e9, e3] at g0 g1 g2 g3 g4 g5 g6
    obtain ⟨p, rfl, hp⟩ := int_cell Tryd.underlying3 g0
    obtain ⟨s, rfl, hs⟩ := int_cell Tryd.underlying3 g1
    obtain ⟨c, rfl, hc⟩ := int_cell Tryd.underlying3 g2
    obtain ⟨b, rfl, hb⟩ := int_cell Tryd.underlying3 g3
    obtain ⟨z, rfl⟩ := bool_cell Tryd.underlying4 g4
    obtain ⟨W, pc, hW, hn, hw⟩ := open_regs g5
    obtain ⟨q1, q2, q3, hq, h1, h2, h3⟩ := open_quota g6
    refine ⟨⟨p, s, c, b, z, W, pc, q1, q2, q3⟩, ?_, ⟨hn, hw, hp, hs, hc, hb, h1, h2, h3⟩⟩
    unfold EnG.cells
    rw [← hW, ← hq]
    rfl
theorem open_cap {fuel : Nat} {cs : List Value} {x : DataW H × List MemPlace} (h : DataW.trod enc Tryd.prog w base spare held fuel 43 cs = some x) : ∃ c : CaG, cs = c.cells ∧ c.Ok := by
  obtain ⟨xs, k, hk, hxy, hl, hxl, hf⟩ := DataW.trod_struct Tryd.underlying43 h
  have e8 : Tryd.prog.cellsOf 43 = 8 := by kernel_rfl
  have e2 : Tryd.prog.cellsOf 41 = 2 := by kernel_rfl
  have e1 : Tryd.prog.cellsOf 3 = 1 := by kernel_rfl
  have e0 : Tryd.prog.cellsOf 4 = 1 := by kernel_rfl
  rw [e8] at hl
  match xs, hxl, cs, hl with
  | [y0, y1, y2, y3, y4, y5, y6], _, [v0, v1, v2, v3, v4, v5, v6, v7], _ =>
    have g0 := hf 0 _ rfl
    have g1 := hf 1 _ rfl
    have g2 := hf 2 _ rfl
    have g3 := hf 3 _ rfl
    have g4 := hf 4 _ rfl
    have g5 := hf 5 _ rfl
    have g6 := hf 6 _ rfl
    simp [e1, e0, e2] at g0 g1 g2 g3 g4 g5 g6
    obtain ⟨a, rfl, ha⟩ := int_cell Tryd.underlying3 g0
    obtain ⟨s, rfl, hs⟩ := int_cell Tryd.underlying3 g1
    obtain ⟨c, rfl, hc⟩ := int_cell Tryd.underlying3 g2
    obtain ⟨b, rfl, hb⟩ := int_cell Tryd.underlying3 g3
    obtain ⟨z, rfl⟩ := bool_cell Tryd.underlying4 g4
    obtain ⟨o, rfl, ho⟩ := int_cell Tryd.underlying3 g5
    obtain ⟨q1, q2, hq, h1, h2⟩ := open_place g6
    simp at hq
    obtain ⟨rfl, rfl⟩ := hq
    exact ⟨⟨a, s, c, b, z, o, q1, q2⟩, rfl, ⟨ha, hs, hc, hb, ho, h1, h2⟩⟩
theorem open_mapr {fuel : Nat} {cs : List Value} {x : DataW H × List MemPlace} (h : DataW.trod enc Tryd.prog w base spare held fuel 45 cs = some x) : ∃ m : MaG, cs = m.cells ∧ m.Ok := by
  obtain ⟨xs, k, hk, hxy, hl, hxl, hf⟩ := DataW.trod_struct Tryd.underlying45 h
  have e4 : Tryd.prog.cellsOf 45 = 4 := by kernel_rfl
  have e1 : Tryd.prog.cellsOf 3 = 1 := by kernel_rfl
  have e0 : Tryd.prog.cellsOf 4 = 1 := by kernel_rfl
  rw [e4] at hl
  match xs, hxl, cs, hl with
  | [y0, y1, y2, y3], _, [v0, v1, v2, v3], _ =>
    have g0 := hf 0 _ rfl
    have g1 := hf 1 _ rfl
    have g2 := hf 2 _ rfl
    have g3 := hf 3 _ rfl
    simp [e1, e0] at g0 g1 g2 g3
    obtain ⟨a, rfl, ha⟩ := int_cell Tryd.underlying3 g0
    obtain ⟨s, rfl, hs⟩ := int_cell Tryd.underlying3 g1
    obtain ⟨c, rfl, hc⟩ := int_cell Tryd.underlying3 g2
    obtain ⟨z, rfl⟩ := bool_cell Tryd.underlying4 g3
    exact ⟨⟨a, s, c, z⟩, rfl, ⟨ha, hs, hc⟩⟩
theorem open_out {fuel : Nat} {cs : List Value} {x : DataW H × List MemPlace} (h : DataW.trod enc Tryd.prog w base spare held fuel 49 cs = some x) : ∃ o : OuG, cs = o.cells ∧ o.Ok := by
  obtain ⟨xs, k, hk, hxy, hl, hxl, hf⟩ := DataW.trod_struct Tryd.underlying49 h
  have e4 : Tryd.prog.cellsOf 49 = 2 := by kernel_rfl
  have e1 : Tryd.prog.cellsOf 3 = 1 := by kernel_rfl
  rw [e4] at hl
  match xs, hxl, cs, hl with
  | [y0, y1], _, [v0, v1], _ =>
    have g0 := hf 0 _ rfl
    have g1 := hf 1 _ rfl
    simp [e1] at g0 g1
    obtain ⟨a, rfl, ha⟩ := int_cell Tryd.underlying3 g0
    obtain ⟨s, rfl, hs⟩ := int_cell Tryd.underlying3 g1
    exact ⟨⟨a, s⟩, rfl, ⟨ha, hs⟩⟩
/-- a slice of structs of one kind -/
theorem open_rows {α : Type} [Inhabited α] {t e : TypeId} {sz : Nat} (C : α → List Value) (ok : α → Prop) (ht : Tryd.prog.underlying t = some (.slice e)) (ce : Tryd.prog.cellsOf e = sz) (hsz : 0 < sz) (hC : ∀ a, ok a → (C a).length = sz)
    (one : ∀ {fuel : Nat} {cs : List Value} {x : DataW H × List MemPlace}, DataW.trod enc Tryd.prog w base spare held fuel e cs = some x → ∃ a, cs = C a ∧ ok a)
    {fuel : Nat} {cs : List Value} {x : DataW H × List MemPlace} (h : DataW.trod enc Tryd.prog w base spare held fuel t cs = some x) :
    ∃ (a : Option Addr) (len cap : Nat) (O : Nat → α), cs = [.slice a len cap] ∧ len ≤ Rows.uptoBulk x.1 ∧ RowIs w.heap.size w a len sz (fun k => C (O k)) ∧ ∀ k, k < len → ok (O k) := by
  rcases open_slice ht h with ⟨rfl, rfl⟩ | ⟨a, len, cap, m, n, D, Pl, rfl, hb, hl, hm, hmm, rfl, hx⟩
  · exact ⟨none, 0, 0, fun _ => default, rfl, Nat.zero_le _, fun k hk => by omega, fun k hk => by omega⟩
  have hlm : len ≤ m := by rw [hmm]; split <;> omega
  have each : ∀ i, i < len → ∃ o : α, (∀ (j : Nat) (v : Value), (C o)[j]? = some v → w.cell? ((a.add (i * sz)).add j) = some v) ∧ ok o := by
    intro i hi
    obtain ⟨cs', h1, h2⟩ := hx i (by omega)
    rw [ce] at h1
    obtain ⟨_, hlen, hcell⟩ := World.cells?_some h1
    obtain ⟨o, rfl, ho⟩ := one h2
    refine ⟨o, fun j v hv => ?_, ho⟩
    have hj : j < sz := by have := (List.getElem?_eq_some_iff.1 hv).1; omega
    rw [hcell j hj]; exact hv
  obtain ⟨O, hO⟩ := choose_lt each
  refine ⟨some a, len, cap, O, rfl, ?_, fun k hk => ⟨a, rfl, ?_, (hO k hk).1⟩, fun k hk => (hO k hk).2⟩
  · have := bulk_slice ((List.range len).map D) ((List.range (m - len)).map fun j => D (len + j))
    simpa using this
  · have h0 := (hO k hk).1 0
    have hl0 := hC _ (hO k hk).2
    have := cell_lt (h0 ((C (O k))[0]'(by omega)) (by simp))
    rwa [blk_add, blk_add] at this
theorem open_page {fuel : Nat} {cs : List Value} {x : DataW H × List MemPlace} (h : DataW.trod enc Tryd.prog w base spare held fuel 47 cs = some x) : ∃ W : List Nat, cs = pgL W ∧ PgOk W := by
  obtain ⟨W, h1, h2, h3⟩ := open_words Tryd.underlying47 (by kernel_rfl) h
  exact ⟨W, h1, h2, h3⟩
theorem open_forest {fuel : Nat} {cs : List Value} {x : DataW H × List MemPlace} (hB : Rows.uptoBulk x.1 ≤ 1048576) (h : DataW.trod enc Tryd.prog w base spare held fuel 28 cs = some x) :
    ∃ (v : Fv) (F : Fo), cs = v.cells F ∧ F.Ok ∧ FoAt w.heap.size w v F := by
  haveI : Inhabited EnG := ⟨⟨0, 0, 0, 0, false, [], 0, 0, 0, 0⟩⟩
  haveI : Inhabited CaG := ⟨⟨0, 0, 0, 0, false, 0, 0, 0⟩⟩
  haveI : Inhabited MaG := ⟨⟨0, 0, 0, false⟩⟩
  haveI : Inhabited OuG := ⟨⟨0, 0⟩⟩
  obtain ⟨xs, k, hk, hxy, hl, hxl, hf⟩ := DataW.trod_struct Tryd.underlying28 h
  have e5 : Tryd.prog.cellsOf 28 = 5 := by kernel_rfl
  rw [e5] at hl
  match xs, hxl, cs, hl with
  | [y0, y1, y2, y3, y4], _, [v0, v1, v2, v3, v4], _ =>
    have g0 := hf 0 _ rfl
    have g1 := hf 1 _ rfl
    have g2 := hf 2 _ rfl
    have g3 := hf 3 _ rfl
    have g4 := hf 4 _ rfl
    simp [show Tryd.prog.cellsOf 22 = 1 by kernel_rfl, show Tryd.prog.cellsOf 23 = 1 by kernel_rfl, show Tryd.prog.cellsOf 24 = 1 by kernel_rfl, show Tryd.prog.cellsOf 25 = 1 by kernel_rfl, show Tryd.prog.cellsOf 26 = 1 by kernel_rfl] at g0 g1 g2 g3 g4
    obtain ⟨aE, nE, cE, E, he, bE, rE, kE⟩ := open_rows EnG.cells EnG.Ok Tryd.underlying22 (sz := 17) (by kernel_rfl) (by decide) (fun a h => EnG.len h) open_env g0
    obtain ⟨aC, nC, cC, C, hc, bC, rC, kC⟩ := open_rows CaG.cells CaG.Ok Tryd.underlying23 (sz := 8) (by kernel_rfl) (by decide) (fun a h => rfl) open_cap g1
    obtain ⟨aM, nM, cM, M, hm, bM, rM, kM⟩ := open_rows MaG.cells MaG.Ok Tryd.underlying24 (sz := 4) (by kernel_rfl) (by decide) (fun a h => rfl) open_mapr g2
    obtain ⟨aP, nP, cP, P, hp, bP, rP, kP⟩ := open_rows pgL PgOk Tryd.underlying25 (sz := 32) (by kernel_rfl) (by decide) (fun a h => by rw [pgL, List.length_map]; exact h.1) open_page g3
    obtain ⟨aO, nO, cO, O, ho, bO, rO, kO⟩ := open_rows OuG.cells OuG.Ok Tryd.underlying26 (sz := 2) (by kernel_rfl) (by decide) (fun a h => rfl) open_out g4
    simp at he hc hm hp ho
    subst he hc hm hp ho
    have hD : x.1 = .agg ([y0, y1, y2, y3, y4].map (·.1)) := congrArg Prod.fst hxy
    rw [hD] at hB
    simp only [Rows.uptoBulk, Rows.uptoBulkAll, List.map_cons, List.map_nil] at hB
    exact ⟨⟨aE, cE, aC, cC, aM, cM, aP, cP, aO, cO⟩, ⟨nE, E, nC, C, nM, M, nP, P, nO, O⟩, rfl, ⟨kE, kC, kM, kP, kO, by show nE + nC + nM + nP + nO ≤ 1048576; omega⟩, ⟨rE, rC, rM, rP, rO⟩⟩
end
end Go.Proofs.YtionncfpcbjchaaDoor
