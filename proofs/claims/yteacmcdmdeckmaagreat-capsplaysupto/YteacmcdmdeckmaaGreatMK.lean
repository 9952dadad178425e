import Derived.Test.YteacmcdmdeckmaaGreatRows
import Derived.ProofKit
import Derived.OpenShut
import Derived.Deep.Slices
import Derived.Test.YteacmcdmdeckmaaGreatMJ
namespace Go.Proofs.YteacmcdmdeckmaaGreat
open Go.ChangeShapes Go.WideShapes Go.ChangeAt Go.RowKit Go.Deep

/-- a step that came in, with what 'play' does not ask -/
structure Ov where
  o : Opr
  two : Bool
  ia : Option Addr
  il : Nat
  ic : Nat
def Ov.cells (v : Ov) : List Value := [.bool v.two, .int .i64 v.o.q, .int .i64 v.o.e, .int .i64 v.o.s, .int .i64 v.o.t, .int .i64 v.o.a, .int .i64 v.o.r, .int .i64 v.o.ck, .int .i64 v.o.co, .int .i64 v.o.cs, .int .i64 v.o.cr, .slice v.ia v.il v.ic]
def Ov.nil : Ov := ⟨⟨0, 0, 0, 0, 0, 0, 0, 0, 0, 0⟩, false, none, 0, 0⟩
theorem ov_len (v : Ov) : v.cells.length = 12 := rfl
theorem ov_one (v : Ov) : ∀ u ∈ v.cells, u.oneCell' = true := by
  intro u hu
  simp [Ov.cells] at hu
  rcases hu with rfl | rfl | rfl | rfl | rfl | rfl | rfl | rfl | rfl | rfl | rfl | rfl <;> rfl
theorem ov_val (v : Ov) : .agg v.cells.toArray = v.o.val v.two (.slice v.ia v.il v.ic) := rfl
theorem infoOp : (Tryz.prog.info? 31).map (·.size) = some 12 := by kernel_rfl
/-- a step of the law's own -/
structure Ob (w : World) (N : Nat) (o : Ov) : Prop where
  out : w.heap[N]? = some (.cells o.cells.toArray 31 (0, 0))
section
variable {w w' wr : World} {N : Nat} {o : Ov}
theorem Ob.get (h : Ob w N o) {j : Nat} {v : Value} (hv : o.cells[j]? = some v) : w.cell? ⟨N, j, none⟩ = some v := by
  rw [cell_of_row _ _ _ _ _ _ h.out]; simpa using hv
theorem Ob.lt (h : Ob w N o) : N < w.heap.size := (Array.getElem?_eq_some_iff.1 h.out).1
theorem Ob.up (h : Ob w N o) (hb : Below w.heap.size w w') : Ob w' N o := ⟨by rw [hb.block N h.lt]; exact h.out⟩
theorem Ob.mod (h : Ob w N o) {F : Nat → Prop} (hm : Mod F w w') (hF : ¬ F N) : Ob w' N o := ⟨by rw [hm.block N h.lt hF]; exact h.out⟩
theorem Ob.new (w : World) (o : Ov) : Ob (w.alloc (.cells o.cells.toArray 31)) w.heap.size o := ⟨heap_alloc_new _ _⟩
end
theorem heap_setCells_other (b k : Nat) (hk : k ≠ b) : ∀ (vs : List Value) (o : Nat) (w : World), (w.setCells b o vs).heap[k]? = w.heap[k]?
  | [], _, _ => rfl
  | v :: r, o, w => by
    rw [World.setCells, heap_setCells_other b k hk r (o + 1) _, heap_setCell_other _ _ _ _ hk]
theorem setCells_rest (b : Nat) : ∀ (vs : List Value) (o : Nat) (w : World), (w.setCells b o vs).os = w.os ∧ (w.setCells b o vs).tape = w.tape ∧ (w.setCells b o vs).output = w.output ∧ (w.setCells b o vs).heap.size = w.heap.size
  | [], _, _ => ⟨rfl, rfl, rfl, rfl⟩
  | v :: r, o, w => by
    obtain ⟨h1, h2, h3, h4⟩ := setCells_rest b r (o + 1) (w.setCell ⟨b, o, none⟩ v)
    rw [World.setCells]
    exact ⟨h1, h2, h3, by rw [h4]; simp [World.setCell]⟩
theorem heap_setCells (b t : Nat) : ∀ (vs : List Value) (o : Nat) (w : World) (cs : Array Value), w.heap[b]? = some (.cells cs t (0, 0)) →
    ∃ cs', (w.setCells b o vs).heap[b]? = some (.cells cs' t (0, 0)) ∧ cs'.size = cs.size ∧ ∀ j, j < cs.size → cs'[j]? = if o ≤ j ∧ j < o + vs.length then vs[j - o]? else cs[j]?
  | [], o, w, cs, h => ⟨cs, h, rfl, fun j _ => by rw [if_neg (by simp)]⟩
  | v :: r, o, w, cs, h => by
    obtain ⟨cs', h1, h2, h3⟩ := heap_setCells b t r (o + 1) (w.setCell ⟨b, o, none⟩ v) (cs.setIfInBounds o v) (heap_setCell_same w b o cs t v h)
    refine ⟨cs', by rw [World.setCells]; exact h1, by simpa using h2, fun j hj => ?_⟩
    rw [h3 j (by simpa using hj)]
    by_cases e : j = o
    · subst e
      rw [if_neg (by omega), if_pos (by simp)]
      simp [hj]
    · by_cases e2 : o + 1 ≤ j ∧ j < o + 1 + r.length
      · rw [if_pos e2, if_pos (by simp; omega)]
        rw [show j - o = (j - (o + 1)) + 1 by omega, List.getElem?_cons_succ]
      · rw [if_neg e2, if_neg (by simp; omega)]
        rw [Array.getElem?_setIfInBounds_ne (by omega)]
theorem Mod.setCells {F : Nat → Prop} {a w : World} (h : Mod F a w) {b : Nat} (hp : F b ∨ a.heap.size ≤ b) (o : Nat) (vs : List Value) : Mod F a (w.setCells b o vs) := by
  obtain ⟨h1, h2, h3, h4⟩ := setCells_rest b vs o w
  refine ⟨h1.trans h.os, h2.trans h.tape, h3.trans h.output, by rw [h4]; exact h.size, fun k hk hf => ?_⟩
  rw [heap_setCells_other b k (fun e => by subst e; rcases hp with hp | hp; exact hf hp; omega)]; exact h.block k hk hf
/-- a new step, and o laid into it -/
def freshO (w : World) (o : Ov) : World := (w.alloc (.cells Ov.nil.cells.toArray 31)).setCells w.heap.size 0 o.cells
theorem freshO_ob (w : World) (o : Ov) : Ob (freshO w o) w.heap.size o := by
  obtain ⟨cs', h1, h2, h3⟩ := heap_setCells w.heap.size 31 o.cells 0 _ _ (heap_alloc_new w (.cells Ov.nil.cells.toArray 31))
  have hs : Ov.nil.cells.toArray.size = 12 := rfl
  have hc : cs' = o.cells.toArray := by
    apply Array.ext_getElem?
    intro j
    by_cases hj : j < 12
    · rw [h3 j (by rw [hs]; exact hj), if_pos (by rw [ov_len]; omega)]; simp
    · rw [Array.getElem?_eq_none (by rw [h2, hs]; omega), Array.getElem?_eq_none (by simp [ov_len]; omega)]
  unfold freshO
  exact ⟨by rw [h1, hc]⟩
theorem freshO_below (w : World) (o : Ov) : Below w.heap.size w (freshO w o) := by
  have h := (Mod.refl (fun _ => False) w).alloc (.cells Ov.nil.cells.toArray 31)
  exact (h.setCells (b := w.heap.size) (.inr (Nat.le_refl _)) 0 o.cells).below (fun b hb => hb.elim) (Nat.le_refl _)
/-- a struct loaded out of whatever address -/
theorem loadOp {ops : Array Oper} {rest : List Oper} {op : Oper} {a : Act} {w : World} {Q : Exit → Act → World → Prop} (hw : Region.wanted op (yielded ops a.tmps) = true) (x : Operand) (ho : op.op = .load 31 x) (ad : Addr)
    (hx : a.eval x = .pointer (some ad)) (o : Ov) (hc : ∀ (j : Nat) (v : Value), o.cells[j]? = some v → w.cell? (ad.add j) = some v) (h : wpList Tryz.prog ops Q rest (a.put op.dst (.agg o.cells.toArray)) w) : wpList Tryz.prog ops Q (op :: rest) a w :=
  BigFrame.wpList_want hw fun _ hK => by
    have hl : (loadCells ad o.cells.length).run Tryz.prog w = .ok o.cells.toArray w := run_loadCells_list w ad o.cells hc
    have hv : (loadVar 31 ad).run Tryz.prog w = .ok (.agg o.cells.toArray) w := by
      cases hq : Tryz.prog.info? 31 with
      | none => have := infoOp; simp [hq] at this
      | some i =>
        have hs : i.size = o.cells.length := by have := infoOp; simp [hq] at this; rw [this, ov_len]
        have hagg : (isAgg 31).run Tryz.prog w = .ok true w := by
          unfold isAgg
          rw [Sem.run_bind, run_underlying Tryz.underlying31 w]
          simp
        simp [loadVar, Sem.run_bind, hagg, sizeOf, typeInfo, hq, hs, hl]
    unfold Oper.wp execOp
    simp only [ho, hx, Instr.loadAt, Instr.sureAddr, Sem.run_bind, Sem.run_pure, Result.andThen_ok, hv]
    exact hK _ _ h
theorem storeOp {ops : Array Oper} {rest : List Oper} {op : Oper} {a : Act} {w : World} {Q : Exit → Act → World → Prop} (hw : Region.wanted op (yielded ops a.tmps) = true) (x y : Operand) (ho : op.op = .store 31 x y) (N : Nat) (o q : Ov)
    (hx : a.eval x = .pointer (some ⟨N, 0, none⟩)) (hy : a.eval y = .agg o.cells.toArray) (hc : Ob w N q) (h : wpList Tryz.prog ops Q rest (a.put op.dst undef) (w.setCells N 0 o.cells)) : wpList Tryz.prog ops Q (op :: rest) a w :=
  BigFrame.wpList_want hw fun _ hK => wp_store_mid 31 x y ho N 0 o.cells.toArray hx hy (fun j hj => by
    rw [List.size_toArray, ov_len] at hj
    refine ⟨?_, frozen_of_row _ _ _ _ _ hc.out⟩
    rw [Nat.zero_add, hc.get (List.getElem?_eq_getElem (by rw [ov_len]; exact hj))]; rfl) (by rw [List.size_toArray, ov_len]; exact infoOp) (all_oneCell_toArray (ov_one o)) (hK _ _ h)
/-- steps that came in -/
def IsOps (w : World) (a : Option Addr) (len : Nat) (O : Nat → Ov) : Prop :=
  ∀ k, k < len → ∃ x, a = some x ∧ (∀ (j : Nat) (v : Value), (O k).cells[j]? = some v → w.cell? ((x.add (k * 12)).add j) = some v) ∧ (∃ Z, IsInts' w (O k).ia (O k).il Z) ∧ (O k).il ≤ 1048576
theorem IsOps.at {w : World} {a : Option Addr} {len : Nat} {O : Nat → Ov} (h : IsOps w a len O) {k : Nat} (hk : k < len) : ∃ x, a = some x ∧ (∀ W, Below w.heap.size w W → ∀ (j : Nat) (v : Value), (O k).cells[j]? = some v → W.cell? ((x.add (k * 12)).add j) = some v) ∧ (∃ Z, IsInts' w (O k).ia (O k).il Z) ∧ (O k).il ≤ 1048576 := by
  obtain ⟨x, h1, h2, h3, h4⟩ := h k hk
  refine ⟨x, h1, fun W hb j v hv => ?_, h3, h4⟩
  have h5 := h2 j v hv
  rw [hb.cell (World.block_lt_of_cell? w _ h5)]; exact h5
section
variable {H : Type}
theorem bulk_one (d : DataW H) : 1 ≤ Rows.uptoBulk d := by
  cases d with
  | lit l => cases l <;> simp [Rows.uptoBulk]
  | nil => simp [Rows.uptoBulk]
  | ptr d => simp [Rows.uptoBulk]
  | slice elems spare => simp [Rows.uptoBulk]
  | agg parts => simp [Rows.uptoBulk]
  | iface t d => simp [Rows.uptoBulk]
  | map entries => simp [Rows.uptoBulk]
  | held h => simp [Rows.uptoBulk]
theorem bulk_part {d : DataW H} {l : List (DataW H)} (h : d ∈ l) : Rows.uptoBulk d ≤ Rows.uptoBulkAll l := by
  induction l with
  | nil => cases h
  | cons x r ih =>
    simp only [Rows.uptoBulkAll]
    cases List.mem_cons.1 h with
    | inl e => subst e; omega
    | inr e => have := ih e; omega
theorem bulk_length (l : List (DataW H)) : l.length ≤ Rows.uptoBulkAll l := by
  induction l with
  | nil => simp [Rows.uptoBulkAll]
  | cons x r ih => have := bulk_one x; simp only [Rows.uptoBulkAll, List.length_cons]; omega
theorem bulk_slice (elems spare : List (DataW H)) : elems.length ≤ Rows.uptoBulk (.slice elems spare) := by
  have h1 := bulk_length elems
  simp only [Rows.uptoBulk]; omega
theorem bulk_elem {d : DataW H} {elems spare : List (DataW H)} (h : d ∈ elems) : Rows.uptoBulk d ≤ Rows.uptoBulk (.slice elems spare) := by
  have h1 := bulk_part h
  simp only [Rows.uptoBulk]; omega
theorem bulk_agg {d : DataW H} {parts : List (DataW H)} (h : d ∈ parts) : Rows.uptoBulk d ≤ Rows.uptoBulk (.agg parts) := by
  have h1 := bulk_part h
  simp only [Rows.uptoBulk]; omega

variable {enc : TypeId × Value → H} {w : World} {base : Nat} {spare : Nat → Bool} {held : Bool}
theorem bool_cell {t : TypeId} {n : Nat} {v : Value} {y : DataW H × List MemPlace} (ht : Tryz.prog.underlying t = some .bool) (h : DataW.trod enc Tryz.prog w base spare held n t [v] = some y) : ∃ z : Bool, v = .bool z := by
  obtain ⟨z, h1, _⟩ := DataW.trod_bool ht h
  exact ⟨z, by simpa using h1⟩
theorem int_cell {t : TypeId} {n : Nat} {v : Value} {y : DataW H × List MemPlace} (ht : Tryz.prog.underlying t = some (.int .i64)) (h : DataW.trod enc Tryz.prog w base spare held n t [v] = some y) : ∃ z : Int, v = .int .i64 z := by
  obtain ⟨z, h1, _⟩ := DataW.trod_int ht h
  exact ⟨z, by simpa using h1⟩
theorem open_ints {t e : TypeId} {fuel : Nat} {cs : List Value} {x : DataW H × List MemPlace} (ht : Tryz.prog.underlying t = some (.slice e)) (he : Tryz.prog.underlying e = some (.int .i64)) (ce : Tryz.prog.cellsOf e = 1)
    (h : DataW.trod enc Tryz.prog w base spare held fuel t cs = some x) : ∃ (a : Option Addr) (len cap : Nat) (I : Nat → Int), cs = [.slice a len cap] ∧ len ≤ Rows.uptoBulk x.1 ∧ IsInts' w a len I := by
  rcases open_slice1 ht ce h with ⟨rfl, _⟩ | ⟨a, len, cap, m, n, V, D, Pl, rfl, hb, hl, hm, hmm, rfl, hx⟩
  · exact ⟨none, 0, 0, fun _ => 0, rfl, Nat.zero_le _, fun k hk => by omega⟩
  have hlm : len ≤ m := by rw [hmm]; split <;> omega
  have each : ∀ i, i < len → ∃ z : Int, V i = .int .i64 z := fun i hi => int_cell he (hx i (by omega)).2
  obtain ⟨Z, hZ⟩ := choose_lt each
  refine ⟨some a, len, cap, Z, rfl, ?_, fun k hk => ⟨a, rfl, ?_⟩⟩
  · have := bulk_slice ((List.range len).map D) ((List.range (m - len)).map fun j => D (len + j))
    simpa using this
  · rw [(hx k (by omega)).1, hZ k hk]
set_option maxRecDepth 20000 in
theorem open_op {n : Nat} {cs : List Value} {y : DataW H × List MemPlace} (hB : Rows.uptoBulk y.1 ≤ 1048576) (hl : cs.length = 12) (h : DataW.trod enc Tryz.prog w base spare held n 31 cs = some y) : ∃ o : Ov, cs = o.cells ∧ (∃ Z, IsInts' w o.ia o.il Z) ∧ o.il ≤ 1048576 := by
  obtain ⟨xs, k, hk, hxy, _, hxl, hf⟩ := DataW.trod_struct Tryz.underlying31 h
  match xs, hxl with
  | [y0, y1, y2, y3, y4, y5, y6, y7, y8], _ =>
    have g0 := hf 0 _ rfl
    have g1 := hf 1 _ rfl
    have g2 := hf 2 _ rfl
    have g3 := hf 3 _ rfl
    have g4 := hf 4 _ rfl
    have g5 := hf 5 _ rfl
    have g6 := hf 6 _ rfl
    have g7 := hf 7 _ rfl
    have g8 := hf 8 _ rfl
    have e1 : Tryz.prog.cellsOf 3 = 1 := by kernel_rfl
    have e2 : Tryz.prog.cellsOf 4 = 1 := by kernel_rfl
    have e3 : Tryz.prog.cellsOf 28 = 4 := by kernel_rfl
    have e4 : Tryz.prog.cellsOf 29 = 1 := by kernel_rfl
    match cs, hl with
    | [v0, v1, v2, v3, v4, v5, v6, v7, v8, v9, va, vb], _ =>
      simp [e1, e2, e3, e4] at g0 g1 g2 g3 g4 g5 g6 g7 g8
      obtain ⟨b, rfl⟩ := bool_cell Tryz.underlying4 g0
      obtain ⟨z1, rfl⟩ := int_cell Tryz.underlying3 g1
      obtain ⟨z2, rfl⟩ := int_cell Tryz.underlying3 g2
      obtain ⟨z3, rfl⟩ := int_cell Tryz.underlying3 g3
      obtain ⟨z4, rfl⟩ := int_cell Tryz.underlying3 g4
      obtain ⟨z5, rfl⟩ := int_cell Tryz.underlying3 g5
      obtain ⟨z6, rfl⟩ := int_cell Tryz.underlying3 g6
      obtain ⟨a, l, c, Z, hvb, hlb, hZ⟩ := open_ints Tryz.underlying29 Tryz.underlying3 e1 g8
      simp at hvb
      subst hvb
      have hDe : y.1 = .agg ([y0, y1, y2, y3, y4, y5, y6, y7, y8].map (·.1)) := congrArg Prod.fst hxy
      have hl8 : l ≤ 1048576 := by
        have := bulk_agg (d := y8.1) (parts := [y0, y1, y2, y3, y4, y5, y6, y7, y8].map (·.1)) (by simp)
        rw [← hDe] at this
        omega
      obtain ⟨xs, k, hk, hxy, _, hxl, hf⟩ := DataW.trod_struct Tryz.underlying28 g7
      match xs, hxl with
      | [y0, y1, y2, y3], _ =>
        have g0 := hf 0 _ rfl
        have g1 := hf 1 _ rfl
        have g2 := hf 2 _ rfl
        have g3 := hf 3 _ rfl
        simp [e1] at g0 g1 g2 g3
        obtain ⟨z7, rfl⟩ := int_cell Tryz.underlying3 g0
        obtain ⟨z8, rfl⟩ := int_cell Tryz.underlying3 g1
        obtain ⟨z9, rfl⟩ := int_cell Tryz.underlying3 g2
        obtain ⟨za, rfl⟩ := int_cell Tryz.underlying3 g3
        exact ⟨⟨⟨z1, z2, z3, z4, z5, z6, z7, z8, z9, za⟩, b, a, l, c⟩, rfl, ⟨Z, hZ⟩, hl8⟩
theorem open_ops {fuel : Nat} {cs : List Value} {x : DataW H × List MemPlace} (hB : Rows.uptoBulk x.1 ≤ 1048576) (h : DataW.trod enc Tryz.prog w base spare held fuel 22 cs = some x) :
    ∃ (a : Option Addr) (len cap : Nat) (O : Nat → Ov), cs = [.slice a len cap] ∧ len ≤ 1048576 ∧ IsOps w a len O := by
  rcases open_slice Tryz.underlying22 h with ⟨rfl, _⟩ | ⟨a, len, cap, m, n, D, Pl, rfl, hb, hl, hm, hmm, rfl, hx⟩
  · exact ⟨none, 0, 0, fun _ => Ov.nil, rfl, Nat.zero_le _, fun k hk => by omega⟩
  have hlm : len ≤ m := by rw [hmm]; split <;> omega
  have ce : Tryz.prog.cellsOf 31 = 12 := by kernel_rfl
  have each : ∀ i, i < len → ∃ o : Ov, (∀ (j : Nat) (v : Value), o.cells[j]? = some v → w.cell? ((a.add (i * 12)).add j) = some v) ∧ (∃ Z, IsInts' w o.ia o.il Z) ∧ o.il ≤ 1048576 := by
    intro i hi
    obtain ⟨cs', h1, h2⟩ := hx i (by omega)
    rw [ce] at h1
    obtain ⟨_, hlen, hcell⟩ := World.cells?_some h1
    have hDi : Rows.uptoBulk (D i) ≤ 1048576 := Nat.le_trans (bulk_elem (List.mem_map.2 ⟨i, List.mem_range.2 hi, rfl⟩)) hB
    obtain ⟨o, rfl, h3, h4⟩ := open_op (y := (D i, Pl i)) hDi hlen h2
    refine ⟨o, fun j v hv => ?_, h3, h4⟩
    have hj : j < 12 := by have := (List.getElem?_eq_some_iff.1 hv).1; rwa [ov_len] at this
    rw [hcell j hj]; exact hv
  haveI : Inhabited Ov := ⟨Ov.nil⟩
  obtain ⟨O, hO⟩ := choose_lt each
  refine ⟨some a, len, cap, O, rfl, ?_, fun k hk => ⟨a, rfl, hO k hk⟩⟩
  have := bulk_slice ((List.range len).map D) ((List.range (m - len)).map fun j => D (len + j))
  simp at this hB; omega
end
end Go.Proofs.YteacmcdmdeckmaaGreat

namespace Go.Proofs.YteacmcdmdeckmaaGreat
open Go.RowKit

theorem snd_fresh (f : Int → Int → Nat) : Snd (List.replicate 16 none) f := fun e s r h => by
  unfold atB at h
  rw [look_fresh] at h
  cases h
theorem Sys.step {w wr : World} {A : Asn} (h : Sys w wr A) (hA : Good A) (v : Ov) : Sys w (freshO wr v) (star (BxA wr.heap.size v.o v.two (.slice v.ia v.il v.ic)) A) :=
  h.new hA (Fc := fun b => b = wr.heap.size) ⟨(freshO_ob wr v).out, fun _ => Iff.rfl⟩ (fun b e => by rw [e]; exact Nat.le_refl _) (freshO_below wr v)
theorem Sys.bx1 {w0 w : World} {G : Nat} {o : Opr} {two : Bool} {ins : Value} {Rst : Asn} (h : Sys w0 w (star (BxA G o two ins) Rst)) : Cells12 w G o two ins := by
  obtain ⟨F, hx, _⟩ := h.head
  exact cells12_of hx
set_option maxRecDepth 100000 in
set_option maxHeartbeats 6400000 in
theorem plays_walk (a : Option Addr) (len cap : Nat) (O : Nat → Ov) (w : World) (hl : len ≤ 1048576) (hO : IsOps w a len O) :
    Calls Tryz.prog 3 #[.slice a len cap] w fun e w' => e = .returned (.bool true) ∧ Below w.heap.size w w' := by
  have HO := hide hO
  clear hO
  go_enter Tryz.func3, Tryz.ntmps3
  go_wp2_with fail
  refine (new_any w).mono ?_
  rintro e w1 ⟨B1, F1, rfl, h1, h2, h3⟩
  have HS1 := hide ((Sys.start w).new good_emp (X := BkA B1 (List.replicate 16 none)) h1 h2 h3)
  clear h1 h2 h3
  go_wp2_with fail
  refine (newD_any w1).mono ?_
  rintro e w2 ⟨R1, F2, rfl, h1, h2, h3⟩
  have HS2 := hide ((HS1.out.new ((good_bk _ _).star good_emp) (X := RbA R1 (List.replicate 16 none)) h1 h2 h3).swap.shut8 (snd_fresh (fun _ _ => 0)))
  clear h1 h2 h3 HS1
  go_wp2_with fail
  refine (new_any w2).mono ?_
  rintro e w3 ⟨B2, F3, rfl, h1, h2, h3⟩
  have HS3 := hide (HS2.out.new ((good_pr B1 R1).star good_emp) (X := BkA B2 (List.replicate 16 none)) h1 h2 h3)
  clear h1 h2 h3 HS2
  go_wp2_with fail
  refine (newD_any w3).mono ?_
  rintro e w4 ⟨R2, F4, rfl, h1, h2, h3⟩
  have HS4 := hide ((HS3.out.new ((good_bk _ _).star ((good_pr B1 R1).star good_emp)) (X := RbA R2 (List.replicate 16 none)) h1 h2 h3).swap.shut8 (snd_fresh (fun _ _ => 0)))
  clear h1 h2 h3 HS3
  go_wp2
  go_loopw [7] (fun x wr => ∃ k : Nat, k ≤ len ∧ x = .int .i64 (k : Int) ∧ Hid (Sys w wr (star (PrA B2 R2) (star (PrA B1 R1) emp)))) (fun x _ => len - (intOf x).toNat)
  case atStart => exact ⟨0, by omega, rfl, HS4⟩
  case round =>
  clear HS4
  obtain ⟨k, hk, rfl, HS⟩ := hrel
  by_cases hlt : k < len
  · have hd : decide ((k : Int) < (len : Int)) = true := by simp; omega
    have hki : (k : Int) < (len : Int) := by omega
    obtain ⟨x, rfl, hx, ⟨Z, hZ⟩, hil⟩ := HO.out.at hlt
    have hxw := hx wr HS.out.bel
    have HZ := hide hZ
    have HIl := hide hil
    have HSb := hide (HS.out.step ((good_pr B2 R2).star ((good_pr B1 R1).star good_emp)) (O k))
    generalize O k = ov at *
    have hz : Ob (wr.alloc (.cells Ov.nil.cells.toArray 31)) wr.heap.size Ov.nil := Ob.new _ _
    have hkl : k * 12 + 11 < len * 12 := by omega
    clear hx hZ hil
    go_upto_region 11 with (first | refine loadOp ?lwA _ rfl (x.add (k * 12)) ?lxA ov ?lcA ?_ | refine storeOp ?hwA _ _ rfl wr.heap.size ov Ov.nil ?hxA ?hyA ?hzA ?_)
    case lxA => rfl
    case lcA => exact hxw
    case hxA => rfl
    case hyA => rfl
    case hzA => exact hz
    show Code.wp _ _ _ _ (freshO wr ov)
    clear hz hxw HS
    generalize freshO wr ov = w6 at *
    generalize wr.heap.size = N at *
    obtain ⟨o, two, ia, il, ic⟩ := ov
    simp only at HSb HZ HIl
    obtain ⟨c0, c1, c2, c3, c4, c5, c6, c7, c8, c9, c10, c11⟩ := HSb.out.bx1
    clear hkl
    have HG2 : Hid (Good (star (BxA N o two (.slice ia il ic)) (star (PrA B1 R1) emp))) := hide ((good_bx _ _ _ _).star ((good_pr B1 R1).star good_emp))
    have HG1 : Hid (Good (star (BxA N o two (.slice ia il ic)) (star (PrA B2 R2) emp))) := hide ((good_bx _ _ _ _).star ((good_pr B2 R2).star good_emp))
    cases two with
    | true =>
      have HP := hide (plays_any HSb.out.swap HG2.out o true ia il ic Z (HZ.out) (by have := HIl.out; omega))
      unfold Opr.val at HP
      go_wp2_with fail
      refine HP.out.mono ?_
      rintro e1 w4 ⟨rfl, hs4⟩
      have HS4 := hide hs4
      clear hs4 HP
      have d0 := HS4.out.swap.bx1.c0
      have HE := hide HS4.out.swap.drop
      clear c0 c1 c2 c3 c4 c5 c6 c7 c8 c9 c10 c11 HS4 HSb HG1 HG2
      go_wp2
      go_roundw
      case rel => first | exact ⟨k + 1, by omega, by go_num, HE⟩ | ((repeat apply Exists.intro); refine ⟨?_, rfl⟩; exact ⟨k + 1, by omega, by go_num, HE⟩)
      case measure => simp [intOf]; omega
    | false =>
      have HP := hide (plays_any HSb.out.swap2.swap HG1.out o false ia il ic Z (HZ.out) (by have := HIl.out; omega))
      unfold Opr.val at HP
      go_wp2_with fail
      refine HP.out.mono ?_
      rintro e1 w4 ⟨rfl, hs4⟩
      have HS4 := hide hs4
      clear hs4 HP
      have HE := hide HS4.out.swap.drop.swap
      clear c0 c1 c2 c3 c4 c5 c6 c7 c8 c9 c10 c11 HS4 HSb HG1 HG2
      go_wp2
      go_roundw
      case rel => first | exact ⟨k + 1, by omega, by go_num, HE⟩ | ((repeat apply Exists.intro); refine ⟨?_, rfl⟩; exact ⟨k + 1, by omega, by go_num, HE⟩)
      case measure => simp [intOf]; omega
  · obtain rfl : k = len := by omega
    have hd : decide ((k : Int) < (k : Int)) = false := by simp
    have HP := hide (ends_any HS.out.swap ((good_pr B2 R2).star good_emp))
    clear HS
    go_wp2_with fail
    refine HP.out.mono ?_
    rintro e1 w5 ⟨rfl, hs5⟩
    have HP2 := hide (ends_any hs5.swap ((good_pr B1 R1).star good_emp))
    clear hs5 HP
    go_wp2_with fail
    refine HP2.out.mono ?_
    rintro e1 w6 ⟨rfl, hs6⟩
    have HB := hide hs6.bel
    clear hs6 HP2
    go_wp2
    go_ret
    exact ⟨rfl, HB.out⟩
end Go.Proofs.YteacmcdmdeckmaaGreat
