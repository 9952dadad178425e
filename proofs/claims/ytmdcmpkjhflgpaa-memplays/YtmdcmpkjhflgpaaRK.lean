import Derived.Test.YtmdcmpkjhflgpaaH7
import Derived.Deep.Cut
namespace Go.Proofs.Ytmdcmpkjhflgpaa
open Go.RowKit

/-- a step -/
structure Ost where
  two : Bool
  kd : Int
  fa : Int
  ga : Int
  na : Int
  p : Nat → Nat
def Ost.head (o : Ost) : List Value := [.bool o.two, .int .i64 o.kd, .int .i64 o.fa, .int .i64 o.ga, .int .i64 o.na]
def Ost.cells (o : Ost) : List Value := o.head ++ page o.p
def Ost.nil : Ost := ⟨false, 0, 0, 0, 0, fun _ => 0⟩
theorem ocells_len (o : Ost) : o.cells.length = 37 := by simp [Ost.cells, Ost.head, page_len]
theorem ocells_one (o : Ost) : ∀ u ∈ o.cells, u.oneCell' = true := by
  intro u hu
  rcases List.mem_append.1 hu with h | h
  · simp [Ost.head] at h; rcases h with rfl | rfl | rfl | rfl | rfl <;> rfl
  · exact page_one _ u h
theorem ocells_word (o : Ost) {i : Nat} (h : i < 32) : o.cells[5 + i]? = some (.int .u32 (o.p i : Nat)) := by
  unfold Ost.cells
  rw [List.getElem?_append_right (by simp [Ost.head])]
  simp only [Ost.head, List.length_cons, List.length_nil]
  rw [show 5 + i - (0 + 1 + 1 + 1 + 1 + 1) = i by omega, page_get _ h]
theorem info34 : (Try.prog.info? 31).map (·.size) = some 37 := by kernel_rfl
/-- a step of the call's own -/
structure Ob (w : World) (N : Nat) (o : Ost) : Prop where
  out : w.heap[N]? = some (.cells o.cells.toArray 31 (0, 0))
section
variable {w w' wr : World} {N : Nat} {o : Ost}
theorem Ob.get (h : Ob w N o) {j : Nat} {v : Value} (hv : o.cells[j]? = some v) : w.cell? ⟨N, j, none⟩ = some v := by
  rw [cell_of_row _ _ _ _ _ _ h.out]; simpa using hv
theorem Ob.c (h : Ob w N o) : w.cell? ⟨N, 0, none⟩ = some (.bool o.two) ∧ w.cell? ⟨N, 1, none⟩ = some (.int .i64 o.kd) ∧ w.cell? ⟨N, 2, none⟩ = some (.int .i64 o.fa) ∧ w.cell? ⟨N, 3, none⟩ = some (.int .i64 o.ga) ∧ w.cell? ⟨N, 4, none⟩ = some (.int .i64 o.na) ∧ w.cell? ⟨N, 5, none⟩ = some (.int .u32 (o.p 0 : Nat)) :=
  ⟨h.get rfl, h.get rfl, h.get rfl, h.get rfl, h.get rfl, h.get (ocells_word o (i := 0) (by omega))⟩
theorem Ob.pg (h : Ob w N o) : w.rangeAt N 5 (page o.p) := by
  intro j v hv
  have hj : j < 32 := by have := (List.getElem?_eq_some_iff.1 hv).1; rwa [page_len] at this
  rw [page_get _ hj] at hv
  rw [← hv]; exact h.get (ocells_word o hj)
theorem Ob.all (h : Ob w N o) : w.rangeAt N 0 o.cells := fun j v hv => by rw [Nat.zero_add]; exact h.get hv
theorem Ob.lt (h : Ob w N o) : N < w.heap.size := (Array.getElem?_eq_some_iff.1 h.out).1
theorem Ob.up (h : Ob w N o) (hb : Below w.heap.size w w') : Ob w' N o := ⟨by rw [hb.block N h.lt]; exact h.out⟩
theorem Ob.mod (h : Ob w N o) {F : Nat → Prop} (hm : Mod F w w') (hF : ¬ F N) : Ob w' N o := ⟨by rw [hm.block N h.lt hF]; exact h.out⟩
theorem Ob.new (w : World) (o : Ost) : Ob (w.alloc (.cells o.cells.toArray 31)) w.heap.size o := ⟨heap_alloc_last _ _⟩
end
/-- a new step, and o laid into it -/
def freshO (w : World) (o : Ost) : World := (w.alloc (.cells Ost.nil.cells.toArray 31)).setCells w.heap.size 0 o.cells
theorem freshO_ob (w : World) (o : Ost) : Ob (freshO w o) w.heap.size o := by
  obtain ⟨cs', h1, h2, h3⟩ := heap_setCells w.heap.size 31 o.cells 0 _ _ (heap_alloc_last w (.cells Ost.nil.cells.toArray 31))
  have hs : Ost.nil.cells.toArray.size = 37 := by simp [ocells_len]
  have hc : cs' = o.cells.toArray := by
    apply Array.ext_getElem?
    intro j
    by_cases hj : j < 37
    · rw [h3 j (by rw [hs]; exact hj), if_pos (by rw [ocells_len]; omega)]; simp
    · rw [Array.getElem?_eq_none (by rw [h2, hs]; omega), Array.getElem?_eq_none (by simp [ocells_len]; omega)]
  unfold freshO
  exact ⟨by rw [h1, hc]⟩
theorem freshO_below (w : World) (o : Ost) : Below w.heap.size w (freshO w o) := by
  have h := (Mod.refl (fun _ => False) w).alloc (.cells Ost.nil.cells.toArray 31)
  exact (h.setCells (b := w.heap.size) (.inr (Nat.le_refl _)) 0 o.cells).below (fun b hb => hb.elim) (Nat.le_refl _)
/-- a struct loaded out of whatever address -/
theorem load34 {ops : Array Oper} {rest : List Oper} {op : Oper} {a : Act} {w : World} {Q : Exit → Act → World → Prop} (hw : Region.wanted op (yielded ops a.tmps) = true) (x : Operand) (ho : op.op = .load 31 x) (ad : Addr)
    (hx : a.eval x = .pointer (some ad)) (o : Ost) (hc : ∀ (j : Nat) (v : Value), o.cells[j]? = some v → w.cell? (ad.add j) = some v) (h : wpList Try.prog ops Q rest (a.put op.dst (.agg o.cells.toArray)) w) : wpList Try.prog ops Q (op :: rest) a w :=
  BigFrame.wpList_want hw fun _ hK => by
    have hl : (loadCells ad o.cells.length).run Try.prog w = .ok o.cells.toArray w := run_loadCells_list w ad o.cells hc
    have hv : (loadVar 31 ad).run Try.prog w = .ok (.agg o.cells.toArray) w := by
      cases hq : Try.prog.info? 31 with
      | none => have := info34; simp [hq] at this
      | some i =>
        have hs : i.size = o.cells.length := by have := info34; simp [hq] at this; rw [this, ocells_len]
        have hagg : (isAgg 31).run Try.prog w = .ok true w := by
          unfold isAgg
          rw [Sem.run_bind, run_underlying Try.underlying31 w]
          simp
        simp [loadVar, Sem.run_bind, hagg, sizeOf, typeInfo, hq, hs, hl]
    unfold Oper.wp execOp
    simp only [ho, hx, Instr.loadAt, Instr.sureAddr, Sem.run_bind, Sem.run_pure, Result.andThen_ok, hv]
    exact hK _ _ h
theorem store34 {ops : Array Oper} {rest : List Oper} {op : Oper} {a : Act} {w : World} {Q : Exit → Act → World → Prop} (hw : Region.wanted op (yielded ops a.tmps) = true) (x y : Operand) (ho : op.op = .store 31 x y) (N : Nat) (o q : Ost)
    (hx : a.eval x = .pointer (some ⟨N, 0, none⟩)) (hy : a.eval y = .agg o.cells.toArray) (hc : Ob w N q) (h : wpList Try.prog ops Q rest (a.put op.dst undef) (w.setCells N 0 o.cells)) : wpList Try.prog ops Q (op :: rest) a w :=
  BigFrame.wpList_want hw fun _ hK => wp_store_mid 31 x y ho N 0 o.cells.toArray hx hy (fun j hj => by
    rw [List.size_toArray, ocells_len] at hj
    refine ⟨?_, frozen_of_row _ _ _ _ _ hc.out⟩
    rw [Nat.zero_add, hc.get (List.getElem?_eq_getElem (by rw [ocells_len]; exact hj))]; rfl) (by rw [List.size_toArray, ocells_len]; exact info34) (all_oneCell_toArray (ocells_one o)) (hK _ _ h)

/-- steps that came in -/
def IsOps (w : World) (a : Option Addr) (len : Nat) (O : Nat → Ost) : Prop :=
  ∀ k, k < len → ∃ x, a = some x ∧ ∀ (j : Nat) (v : Value), (O k).cells[j]? = some v → w.cell? ((x.add (k * 37)).add j) = some v
theorem IsOps.below {w w' : World} {a : Option Addr} {len : Nat} {O : Nat → Ost} (h : IsOps w a len O) (hb : Below w.heap.size w w') : IsOps w' a len O := by
  intro k hk
  obtain ⟨x, h1, h2⟩ := h k hk
  refine ⟨x, h1, fun j v hv => ?_⟩
  have h3 := h2 j v hv
  rw [hb.cell (World.block_lt_of_cell? w _ h3)]; exact h3
end Go.Proofs.Ytmdcmpkjhflgpaa
