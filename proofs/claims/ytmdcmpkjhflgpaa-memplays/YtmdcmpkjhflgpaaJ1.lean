import Derived.Test.YtmdcmpkjhflgpaaH6
import Derived.Deep.Cut
namespace Go.Proofs.Ytmdcmpkjhflgpaa
open Go.RowKit

/-- a page of the call's own -/
structure Pg (w : World) (N : Nat) (p : Nat → Nat) : Prop where
  out : w.heap[N]? = some (.cells (page p).toArray 29 (0, 0))
theorem Pg.range {w : World} {N : Nat} {p : Nat → Nat} (h : Pg w N p) : w.rangeAt N 0 (page p) := fun j v hv => by rw [cell_of_row _ _ _ _ _ _ h.out, Nat.zero_add]; simpa using hv
theorem Pg.cell {w : World} {N i : Nat} {p : Nat → Nat} (h : Pg w N p) (hi : i < 32) : w.cell? ⟨N, i, none⟩ = some (.int .u32 (p i : Nat)) := by
  have := h.range i _ (page_get p hi); rwa [Nat.zero_add] at this
theorem Pg.lt {w : World} {N : Nat} {p : Nat → Nat} (h : Pg w N p) : N < w.heap.size := (Array.getElem?_eq_some_iff.1 h.out).1
theorem Pg.mod {w w' : World} {N : Nat} {p : Nat → Nat} (h : Pg w N p) {F : Nat → Prop} (hm : Mod F w w') (hF : ¬ F N) : Pg w' N p := by
  exact ⟨by rw [hm.block N h.lt hF]; exact h.out⟩
theorem Pg.below {w w' : World} {N : Nat} {p : Nat → Nat} (h : Pg w N p) {B : Nat} (hm : Below B w w') (hF : N < B) : Pg w' N p := by
  exact ⟨by rw [hm.block N hF]; exact h.out⟩

theorem load24 {ops : Array Oper} {rest : List Oper} {op : Oper} {a : Act} {w : World} {Q : Exit → Act → World → Prop} (hw : Region.wanted op (yielded ops a.tmps) = true) (x : Operand) (ho : op.op = .load 29 x) (b o : Nat)
    (hx : a.eval x = .pointer (some ⟨b, o, none⟩)) (p : Nat → Nat) (hc : w.rangeAt b o (page p)) (h : wpList Try.prog ops Q rest (a.put op.dst (.agg (page p).toArray)) w) : wpList Try.prog ops Q (op :: rest) a w :=
  BigFrame.wpList_want hw fun _ hK => wp_load_mid 29 x ho b o hx (page p) _ hc Try.underlying29 rfl info24 (hK _ _ h)
theorem store24 {ops : Array Oper} {rest : List Oper} {op : Oper} {a : Act} {w : World} {Q : Exit → Act → World → Prop} (hw : Region.wanted op (yielded ops a.tmps) = true) (x y : Operand) (ho : op.op = .store 29 x y) (N : Nat) (p q : Nat → Nat)
    (hx : a.eval x = .pointer (some ⟨N, 0, none⟩)) (hy : a.eval y = .agg (page p).toArray) (hc : Pg w N q) (h : wpList Try.prog ops Q rest (a.put op.dst undef) (w.setCells N 0 (page p))) : wpList Try.prog ops Q (op :: rest) a w :=
  BigFrame.wpList_want hw fun _ hK => wp_store_mid 29 x y ho N 0 (page p).toArray hx hy (fun j hj => by
    rw [List.size_toArray, page_len] at hj
    exact ⟨by rw [Nat.zero_add, hc.cell hj]; rfl, frozen_of_row _ _ _ _ _ hc.out⟩) info24 (page_all p) (hK _ _ h)
/-- a memory that the call made, behind the base w -/
structure Sx (w wr : World) (B G n : Nat) (m : Nat → Fr) : Prop where
  mem : MemAt wr B G n m
  b : w.heap.size ≤ B
  g : w.heap.size ≤ G
  bel : Below w.heap.size w wr
section
variable {w wr w' : World} {B G n N : Nat} {m m' : Nat → Fr} {p : Nat → Nat}
theorem Sx.go (h : Sx w wr B G n m) (hg : MGo wr w' B G n m') : Sx w w' B G n m' :=
  ⟨hg.1, h.b, h.g, h.bel.trans (hg.2.below (fun b hb => by rw [hb]; exact h.g) h.bel.size)⟩
theorem Sx.below (h : Sx w wr B G n m) (hb : Below wr.heap.size wr w') : Sx w w' B G n m :=
  ⟨h.mem.below hb, h.b, h.g, h.bel.trans (hb.mono h.bel.size)⟩
/-- a new page, and words laid into it -/
def fresh (w : World) (p : Nat → Nat) : World := (w.alloc (.cells (page (fun _ => 0)).toArray 29)).setCells w.heap.size 0 (page p)
theorem fresh_pg (w : World) (p : Nat → Nat) : Pg (fresh w p) w.heap.size p := by
  obtain ⟨cs', h1, h2, h3⟩ := heap_setCells w.heap.size 29 (page p) 0 _ _ (heap_alloc_last w (.cells (page (fun _ => 0)).toArray 29))
  have hs : (page (fun _ => 0)).toArray.size = 32 := by simp [page_len]
  have hc : cs' = (page p).toArray := by
    apply Array.ext_getElem?
    intro j
    by_cases hj : j < 32
    · rw [h3 j (by rw [hs]; exact hj), if_pos (by rw [page_len]; omega)]; simp
    · rw [Array.getElem?_eq_none (by rw [h2, hs]; omega), Array.getElem?_eq_none (by simp [page_len]; omega)]
  unfold fresh
  exact ⟨by rw [h1, hc]⟩
theorem fresh_below (w : World) (p : Nat → Nat) : Below w.heap.size w (fresh w p) := by
  have h := (Mod.refl (fun _ => False) w).alloc (.cells (page (fun _ => 0)).toArray 29)
  exact (h.setCells (b := w.heap.size) (.inr (Nat.le_refl _)) 0 (page p)).below (fun b hb => hb.elim) (Nat.le_refl _)
theorem Pg.go (h : Pg wr N p) (hg : MGo wr w' B G n m') (hN : N ≠ G) : Pg w' N p := h.mod hg.2 hN
theorem Pg.up (h : Pg wr N p) (hb : Below wr.heap.size wr w') : Pg w' N p := h.below hb h.lt
end
end Go.Proofs.Ytmdcmpkjhflgpaa
