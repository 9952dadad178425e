import Derived.Test.YtimfgjndgfjjgaaYA
import Derived.ProofKit
import Derived.OpenShut
import Derived.Deep.Slices
import Derived.Test.YtimfgjndgfjjgaaOI
namespace Go.Proofs.Ytimfgjndgfjjgaa
open Go.ChangeShapes Go.WideShapes Go.ChangeAt Go.RowKit Go.Deep

/-- a step that came in, with what 'play' does not ask -/
structure Ov where
  o : Opr
  two : Bool
  ia : Option Addr
  il : Nat
  ic : Nat
def Ov.cells (v : Ov) : List Value := [.bool v.two, .int .i64 v.o.q, .int .i64 v.o.e, .int .i64 v.o.s, .int .i64 v.o.t, .int .i64 v.o.a, .int .i64 v.o.r, .int .i64 v.o.ck, .int .i64 v.o.co, .int .i64 v.o.cs, .int .i64 v.o.cr, .slice v.ia v.il v.ic]
def Ov.nil : Ov := ⟨⟨0, 0, 0, 0, 0, 0, 0, 0, 0, 0⟩, false, none, 0, 0⟩
theorem ov_len (v : Ov) : v.cells.length = 12 := rfl
theorem ov_one (v : Ov) : ∀ u ∈ v.cells, u.oneCell' = true := by
  intro u hu
  simp [Ov.cells] at hu
  rcases hu with rfl | rfl | rfl | rfl | rfl | rfl | rfl | rfl | rfl | rfl | rfl | rfl <;> rfl
theorem ov_val (v : Ov) : .agg v.cells.toArray = v.o.val v.two (.slice v.ia v.il v.ic) := rfl
theorem infoOp : (Try.prog.info? 49).map (·.size) = some 12 := by kernel_rfl
/-- a step of the law's own -/
structure Ob (w : World) (N : Nat) (o : Ov) : Prop where
  out : w.heap[N]? = some (.cells o.cells.toArray 49 (0, 0))
section
variable {w w' wr : World} {N : Nat} {o : Ov}
theorem Ob.get (h : Ob w N o) {j : Nat} {v : Value} (hv : o.cells[j]? = some v) : w.cell? ⟨N, j, none⟩ = some v := by
  rw [cell_of_row _ _ _ _ _ _ h.out]; simpa using hv
theorem Ob.lt (h : Ob w N o) : N < w.heap.size := (Array.getElem?_eq_some_iff.1 h.out).1
theorem Ob.up (h : Ob w N o) (hb : Below w.heap.size w w') : Ob w' N o := ⟨by rw [hb.block N h.lt]; exact h.out⟩
theorem Ob.mod (h : Ob w N o) {F : Nat → Prop} (hm : Mod F w w') (hF : ¬ F N) : Ob w' N o := ⟨by rw [hm.block N h.lt hF]; exact h.out⟩
theorem Ob.new (w : World) (o : Ov) : Ob (w.alloc (.cells o.cells.toArray 49)) w.heap.size o := ⟨heap_alloc_new _ _⟩
end
theorem heap_setCells_other (b k : Nat) (hk : k ≠ b) : ∀ (vs : List Value) (o : Nat) (w : World), (w.setCells b o vs).heap[k]? = w.heap[k]?
  | [], _, _ => rfl
  | v :: r, o, w => by
    rw [World.setCells, heap_setCells_other b k hk r (o + 1) _, heap_setCell_other _ _ _ _ hk]
theorem setCells_rest (b : Nat) : ∀ (vs : List Value) (o : Nat) (w : World), (w.setCells b o vs).os = w.os ∧ (w.setCells b o vs).tape = w.tape ∧ (w.setCells b o vs).output = w.output ∧ (w.setCells b o vs).heap.size = w.heap.size
  | [], _, _ => ⟨rfl, rfl, rfl, rfl⟩
  | v :: r, o, w => by
    obtain ⟨h1, h2, h3, h4⟩ := setCells_rest b r (o + 1) (w.setCell ⟨b, o, none⟩ v)
    rw [World.setCells]
    exact ⟨h1, h2, h3, by rw [h4]; simp [World.setCell]⟩
theorem heap_setCells (b t : Nat) : ∀ (vs : List Value) (o : Nat) (w : World) (cs : Array Value), w.heap[b]? = some (.cells cs t (0, 0)) →
    ∃ cs', (w.setCells b o vs).heap[b]? = some (.cells cs' t (0, 0)) ∧ cs'.size = cs.size ∧ ∀ j, j < cs.size → cs'[j]? = if o ≤ j ∧ j < o + vs.length then vs[j - o]? else cs[j]?
  | [], o, w, cs, h => ⟨cs, h, rfl, fun j _ => by rw [if_neg (by simp)]⟩
  | v :: r, o, w, cs, h => by
    obtain ⟨cs', h1, h2, h3⟩ := heap_setCells b t r (o + 1) (w.setCell ⟨b, o, none⟩ v) (cs.setIfInBounds o v) (heap_setCell_same w b o cs t v h)
    refine ⟨cs', by rw [World.setCells]; exact h1, by simpa using h2, fun j hj => ?_⟩
    rw [h3 j (by simpa using hj)]
    by_cases e : j = o
    · subst e
      rw [if_neg (by omega), if_pos (by simp)]
      simp [hj]
    · by_cases e2 : o + 1 ≤ j ∧ j < o + 1 + r.length
      · rw [if_pos e2, if_pos (by simp; omega)]
        rw [show j - o = (j - (o + 1)) + 1 by omega, List.getElem?_cons_succ]
      · rw [if_neg e2, if_neg (by simp; omega)]
        rw [Array.getElem?_setIfInBounds_ne (by omega)]
theorem Mod.setCells {F : Nat → Prop} {a w : World} (h : Mod F a w) {b : Nat} (hp : F b ∨ a.heap.size ≤ b) (o : Nat) (vs : List Value) : Mod F a (w.setCells b o vs) := by
  obtain ⟨h1, h2, h3, h4⟩ := setCells_rest b vs o w
  refine ⟨h1.trans h.os, h2.trans h.tape, h3.trans h.output, by rw [h4]; exact h.size, fun k hk hf => ?_⟩
  rw [heap_setCells_other b k (fun e => by subst e; rcases hp with hp | hp; exact hf hp; omega)]; exact h.block k hk hf
/-- a new step, and o laid into it -/
def freshO (w : World) (o : Ov) : World := (w.alloc (.cells Ov.nil.cells.toArray 49)).setCells w.heap.size 0 o.cells
theorem freshO_ob (w : World) (o : Ov) : Ob (freshO w o) w.heap.size o := by
  obtain ⟨cs', h1, h2, h3⟩ := heap_setCells w.heap.size 49 o.cells 0 _ _ (heap_alloc_new w (.cells Ov.nil.cells.toArray 49))
  have hs : Ov.nil.cells.toArray.size = 12 := rfl
  have hc : cs' = o.cells.toArray := by
    apply Array.ext_getElem?
    intro j
    by_cases hj : j < 12
    · rw [h3 j (by rw [hs]; exact hj), if_pos (by rw [ov_len]; omega)]; simp
    · rw [Array.getElem?_eq_none (by rw [h2, hs]; omega), Array.getElem?_eq_none (by simp [ov_len]; omega)]
  unfold freshO
  exact ⟨by rw [h1, hc]⟩
theorem freshO_below (w : World) (o : Ov) : Below w.heap.size w (freshO w o) := by
  have h := (Mod.refl (fun _ => False) w).alloc (.cells Ov.nil.cells.toArray 49)
  exact (h.setCells (b := w.heap.size) (.inr (Nat.le_refl _)) 0 o.cells).below (fun b hb => hb.elim) (Nat.le_refl _)
/-- a struct loaded out of whatever address -/
theorem loadOp {ops : Array Oper} {rest : List Oper} {op : Oper} {a : Act} {w : World} {Q : Exit → Act → World → Prop} (hw : Region.wanted op (yielded ops a.tmps) = true) (x : Operand) (ho : op.op = .load 49 x) (ad : Addr)
    (hx : a.eval x = .pointer (some ad)) (o : Ov) (hc : ∀ (j : Nat) (v : Value), o.cells[j]? = some v → w.cell? (ad.add j) = some v) (h : wpList Try.prog ops Q rest (a.put op.dst (.agg o.cells.toArray)) w) : wpList Try.prog ops Q (op :: rest) a w :=
  BigFrame.wpList_want hw fun _ hK => by
    have hl : (loadCells ad o.cells.length).run Try.prog w = .ok o.cells.toArray w := run_loadCells_list w ad o.cells hc
    have hv : (loadVar 49 ad).run Try.prog w = .ok (.agg o.cells.toArray) w := by
      cases hq : Try.prog.info? 49 with
      | none => have := infoOp; simp [hq] at this
      | some i =>
        have hs : i.size = o.cells.length := by have := infoOp; simp [hq] at this; rw [this, ov_len]
        have hagg : (isAgg 49).run Try.prog w = .ok true w := by
          unfold isAgg
          rw [Sem.run_bind, run_underlying Try.underlying49 w]
          simp
        simp [loadVar, Sem.run_bind, hagg, sizeOf, typeInfo, hq, hs, hl]
    unfold Oper.wp execOp
    simp only [ho, hx, Instr.loadAt, Instr.sureAddr, Sem.run_bind, Sem.run_pure, Result.andThen_ok, hv]
    exact hK _ _ h
theorem storeOp {ops : Array Oper} {rest : List Oper} {op : Oper} {a : Act} {w : World} {Q : Exit → Act → World → Prop} (hw : Region.wanted op (yielded ops a.tmps) = true) (x y : Operand) (ho : op.op = .store 49 x y) (N : Nat) (o q : Ov)
    (hx : a.eval x = .pointer (some ⟨N, 0, none⟩)) (hy : a.eval y = .agg o.cells.toArray) (hc : Ob w N q) (h : wpList Try.prog ops Q rest (a.put op.dst undef) (w.setCells N 0 o.cells)) : wpList Try.prog ops Q (op :: rest) a w :=
  BigFrame.wpList_want hw fun _ hK => wp_store_mid 49 x y ho N 0 o.cells.toArray hx hy (fun j hj => by
    rw [List.size_toArray, ov_len] at hj
    refine ⟨?_, frozen_of_row _ _ _ _ _ hc.out⟩
    rw [Nat.zero_add, hc.get (List.getElem?_eq_getElem (by rw [ov_len]; exact hj))]; rfl) (by rw [List.size_toArray, ov_len]; exact infoOp) (all_oneCell_toArray (ov_one o)) (hK _ _ h)
/-- steps that came in -/
def IsOps (w : World) (a : Option Addr) (len : Nat) (O : Nat → Ov) : Prop :=
  ∀ k, k < len → ∃ x, a = some x ∧ ∀ (j : Nat) (v : Value), (O k).cells[j]? = some v → w.cell? ((x.add (k * 12)).add j) = some v
theorem IsOps.below {w w' : World} {a : Option Addr} {len : Nat} {O : Nat → Ov} (h : IsOps w a len O) (hb : Below w.heap.size w w') : IsOps w' a len O := by
  intro k hk
  obtain ⟨x, h1, h2⟩ := h k hk
  refine ⟨x, h1, fun j v hv => ?_⟩
  have h3 := h2 j v hv
  rw [hb.cell (World.block_lt_of_cell? w _ h3)]; exact h3
section
variable {H : Type} {enc : TypeId × Value → H} {w : World} {base : Nat} {spare : Nat → Bool} {held : Bool}
theorem bool_cell {t : TypeId} {n : Nat} {v : Value} {y : DataW H × List MemPlace} (ht : Try.prog.underlying t = some .bool) (h : DataW.trod enc Try.prog w base spare held n t [v] = some y) : ∃ z : Bool, v = .bool z := by
  obtain ⟨z, h1, _⟩ := DataW.trod_bool ht h
  exact ⟨z, by simpa using h1⟩
theorem slice_cell {t e : TypeId} {n : Nat} {v : Value} {y : DataW H × List MemPlace} (ht : Try.prog.underlying t = some (.slice e)) (h : DataW.trod enc Try.prog w base spare held n t [v] = some y) : ∃ a l c, v = .slice a l c := by
  rcases open_slice ht h with ⟨h1, _⟩ | ⟨a, len, cap, m, k, D, Pl, h1, _⟩
  · exact ⟨_, _, _, by simpa using h1⟩
  · exact ⟨_, _, _, by simpa using h1⟩
set_option maxRecDepth 20000 in
theorem open_op {n : Nat} {cs : List Value} {y : DataW H × List MemPlace} (hl : cs.length = 12) (h : DataW.trod enc Try.prog w base spare held n 49 cs = some y) : ∃ o : Ov, cs = o.cells := by
  obtain ⟨xs, k, hk, hxy, _, hxl, hf⟩ := DataW.trod_struct Try.underlying49 h
  match xs, hxl with
  | [y0, y1, y2, y3, y4, y5, y6, y7, y8], _ =>
    have g0 := hf 0 _ rfl
    have g1 := hf 1 _ rfl
    have g2 := hf 2 _ rfl
    have g3 := hf 3 _ rfl
    have g4 := hf 4 _ rfl
    have g5 := hf 5 _ rfl
    have g6 := hf 6 _ rfl
    have g7 := hf 7 _ rfl
    have g8 := hf 8 _ rfl
    have e1 : Try.prog.cellsOf 3 = 1 := by kernel_rfl
    have e2 : Try.prog.cellsOf 4 = 1 := by kernel_rfl
    have e3 : Try.prog.cellsOf 26 = 4 := by kernel_rfl
    have e4 : Try.prog.cellsOf 22 = 1 := by kernel_rfl
    match cs, hl with
    | [v0, v1, v2, v3, v4, v5, v6, v7, v8, v9, va, vb], _ =>
      simp [e1, e2, e3, e4] at g0 g1 g2 g3 g4 g5 g6 g7 g8
      obtain ⟨b, rfl⟩ := bool_cell Try.underlying4 g0
      obtain ⟨z1, rfl⟩ := int_cell Try.underlying3 g1
      obtain ⟨z2, rfl⟩ := int_cell Try.underlying3 g2
      obtain ⟨z3, rfl⟩ := int_cell Try.underlying3 g3
      obtain ⟨z4, rfl⟩ := int_cell Try.underlying3 g4
      obtain ⟨z5, rfl⟩ := int_cell Try.underlying3 g5
      obtain ⟨z6, rfl⟩ := int_cell Try.underlying3 g6
      obtain ⟨a, l, c, rfl⟩ := slice_cell Try.underlying22 g8
      obtain ⟨xs, k, hk, hxy, _, hxl, hf⟩ := DataW.trod_struct Try.underlying26 g7
      match xs, hxl with
      | [y0, y1, y2, y3], _ =>
        have g0 := hf 0 _ rfl
        have g1 := hf 1 _ rfl
        have g2 := hf 2 _ rfl
        have g3 := hf 3 _ rfl
        simp [e1] at g0 g1 g2 g3
        obtain ⟨z7, rfl⟩ := int_cell Try.underlying3 g0
        obtain ⟨z8, rfl⟩ := int_cell Try.underlying3 g1
        obtain ⟨z9, rfl⟩ := int_cell Try.underlying3 g2
        obtain ⟨za, rfl⟩ := int_cell Try.underlying3 g3
        exact ⟨⟨⟨z1, z2, z3, z4, z5, z6, z7, z8, z9, za⟩, b, a, l, c⟩, rfl⟩
theorem open_ops {fuel : Nat} {cs : List Value} {x : DataW H × List MemPlace} (h : DataW.trod enc Try.prog w base spare held fuel 47 cs = some x) :
    ∃ (a : Option Addr) (len cap : Nat) (O : Nat → Ov), cs = [.slice a len cap] ∧ len ≤ maxLen ∧ IsOps w a len O := by
  rcases open_slice Try.underlying47 h with ⟨rfl, _⟩ | ⟨a, len, cap, m, n, D, Pl, rfl, hb, hl, hm, hmm, rfl, hx⟩
  · exact ⟨none, 0, 0, fun _ => Ov.nil, rfl, Nat.zero_le _, fun k hk => by omega⟩
  have hlm : len ≤ m := by rw [hmm]; split <;> omega
  have ce : Try.prog.cellsOf 49 = 12 := by kernel_rfl
  have each : ∀ i, i < len → ∃ o : Ov, ∀ (j : Nat) (v : Value), o.cells[j]? = some v → w.cell? ((a.add (i * 12)).add j) = some v := by
    intro i hi
    obtain ⟨cs', h1, h2⟩ := hx i (by omega)
    rw [ce] at h1
    obtain ⟨_, hlen, hcell⟩ := World.cells?_some h1
    obtain ⟨o, rfl⟩ := open_op hlen h2
    refine ⟨o, fun j v hv => ?_⟩
    have hj : j < 12 := by have := (List.getElem?_eq_some_iff.1 hv).1; rwa [ov_len] at this
    rw [hcell j hj]; exact hv
  haveI : Inhabited Ov := ⟨Ov.nil⟩
  obtain ⟨O, hO⟩ := choose_lt each
  exact ⟨some a, len, cap, O, rfl, Nat.le_trans hl hm, fun k hk => ⟨a, rfl, hO k hk⟩⟩
end
end Go.Proofs.Ytimfgjndgfjjgaa
