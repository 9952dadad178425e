import Derived.Test.YtimfgjndgfjjgaaW1
namespace Go.Proofs.Ytimfgjndgfjjgaa
open Go.RowKit

structure StAt (w wr : World) (B nt nc : Nat) (F : Nat → Prop) (bk : List (Option Lst)) (tb tm : List Bool) : Prop where
  book : Book wr F B bk
  inv : Inv tb bk
  arr : wr.heap[nt]? = some (.cells (tm.map Value.bool).toArray 42 (0, 0))
  cap : wr.heap[nc]? = some (.cells #[.int .i64 3, .int .i64 0, .int .i64 1, .int .i64 0] 26 (0, 0))
  nt_ : ¬ F nt
  nc_ : ¬ F nc
  lo : ∀ b, F b → w.heap.size ≤ b
  lt : w.heap.size ≤ nt
  ne : nc ≠ nt
  bel : Below w.heap.size w wr
/-- the book tells tb, the law's own array tm -/
def St (w wr : World) (B nt nc : Nat) (tb tm : List Bool) : Prop := ∃ F bk, StAt w wr B nt nc F bk tb tm
section
variable {w wr : World} {B nt nc : Nat} {tb tm : List Bool}
theorem St.cells (h : St w wr B nt nc tb tm) {s : Nat} {t : Bool} (hs : tm[s]? = some t) : wr.cell? ⟨nt, s, none⟩ = some (.bool t) ∧ wr.frozen? ⟨nt, s, none⟩ = false := by
  obtain ⟨F, bk, h⟩ := h
  exact ⟨by rw [cell_of_row _ _ _ _ _ _ h.arr]; simp [hs], frozen_of_row _ _ _ _ _ h.arr⟩
theorem St.capc (h : St w wr B nt nc tb tm) : wr.cell? ⟨nc, 0, none⟩ = some (.int .i64 3) ∧ wr.cell? ⟨nc, 1, none⟩ = some (.int .i64 0) ∧ wr.cell? ⟨nc, 2, none⟩ = some (.int .i64 1) ∧ wr.cell? ⟨nc, 3, none⟩ = some (.int .i64 0) := by
  obtain ⟨F, bk, h⟩ := h; exact blk4 h.cap
theorem St.below (h : St w wr B nt nc tb tm) {w' : World} (hb : Below wr.heap.size wr w') : St w w' B nt nc tb tm := by
  obtain ⟨F, bk, h⟩ := h
  exact ⟨F, bk, h.book.below hb, h.inv, (hb.block nt (Array.getElem?_eq_some_iff.1 h.arr).1).trans h.arr, (hb.block nc (Array.getElem?_eq_some_iff.1 h.cap).1).trans h.cap, h.nt_, h.nc_, h.lo, h.lt, h.ne, h.bel.trans (hb.mono h.bel.size)⟩
theorem St.bel (h : St w wr B nt nc tb tm) : Below w.heap.size w wr := by obtain ⟨F, bk, h⟩ := h; exact h.bel
theorem St.blen (h : St w wr B nt nc tb tm) : tb.length = 48 := by obtain ⟨F, bk, h⟩ := h; exact h.inv.len
theorem St.store (h : St w wr B nt nc tb tm) (s : Nat) (t : Bool) : St w (wr.setCell ⟨nt, s, none⟩ (.bool t)) B nt nc tb (tm.set s t) := by
  obtain ⟨F, bk, h⟩ := h
  refine ⟨F, bk, h.book.keep (by simp [World.setCell]) (fun b hb => heap_setCell_other _ _ _ _ (fun e => by subst e; exact h.nt_ hb)), h.inv, ?_, (heap_setCell_other _ _ _ _ h.ne).trans h.cap, h.nt_, h.nc_, h.lo, h.lt, h.ne, h.bel.setCell (p := ⟨nt, s, none⟩) h.lt _⟩
  rw [heap_setCell_same _ nt s _ _ _ h.arr, List.map_set]
  simp
theorem StAt.turn {F F' : Nat → Prop} {bk bk' : List (Option Lst)} (h : StAt w wr B nt nc F bk tb tm) {w' : World} {tb' : List Bool} (hB : Book w' F' B bk') (hE : Ext F wr F' w') (hI : Inv tb' bk') : St w w' B nt nc tb' tm := by
  have hnt := (Array.getElem?_eq_some_iff.1 h.arr).1
  have hnc := (Array.getElem?_eq_some_iff.1 h.cap).1
  refine ⟨F', bk', hB, hI, (hE.mod.block nt hnt h.nt_).trans h.arr, (hE.mod.block nc hnc h.nc_).trans h.cap, fun hf => ?_, fun hf => ?_, fun b hb => ?_, h.lt, h.ne, h.bel.trans (hE.mod.below h.lo h.bel.size)⟩
  · rcases hE.new nt hf with h1 | h1
    · exact h.nt_ h1
    · omega
  · rcases hE.new nc hf with h1 | h1
    · exact h.nc_ h1
    · omega
  · rcases hE.new b hb with h1 | h1
    · exact h.lo b h1
    · exact Nat.le_trans h.bel.size h1
theorem St.mint (h : St w wr B nt nc tb tm) (a : Int) :
    Calls Try.prog 16 #[.pointer (some ⟨B, 0, none⟩), .int .i64 2, .int .i64 a, .agg #[.int .i64 3, .int .i64 0, .int .i64 1, .int .i64 0]] wr fun x w' => ∃ c : Int, x = .returned (.tuple #[.int .i64 (want tb a), .int .i64 c]) ∧
      ((c = 0 ∧ ∃ k : Nat, want tb a = (k : Int) ∧ k < 48 ∧ tb[k]? = some false ∧ St w w' B nt nc (tb.set k true) tm) ∨ (c ≠ 0 ∧ want tb a = -1 ∧ St w w' B nt nc tb tm ∧ (a = -1 → c = 2))) := by
  obtain ⟨F, bk, h⟩ := h
  refine (mint_any wr F B bk h.book 2 a 3 0 1 0).mono ?_
  rintro x w' ⟨v, c, bk', F', rfl, hB, hE, hM⟩
  obtain ⟨rfl, h1⟩ := mint_want h.inv hM
  refine ⟨c, rfl, ?_⟩
  rcases h1 with ⟨rfl, k, hk, hk2, hk3, hI⟩ | ⟨hc, hv, hI, h2⟩
  · exact .inl ⟨rfl, k, hk, hk2, hk3, h.turn hB hE hI⟩
  · exact .inr ⟨hc, hv, h.turn hB hE hI, h2⟩
theorem St.dropc (h : St w wr B nt nc tb tm) {s : Nat} {t : Bool} (hs : tb[s]? = some t) :
    Calls Try.prog 11 #[.pointer (some ⟨B, 0, none⟩), .int .i64 2, .int .i64 (s : Int)] wr fun x w' => ∃ k o q r c : Int, x = .returned (.tuple #[.agg #[.int .i64 k, .int .i64 o, .int .i64 q, .int .i64 r], .int .i64 c]) ∧ (c == 0) = t ∧ St w w' B nt nc (tb.set s false) tm := by
  obtain ⟨F, bk, h⟩ := h
  have ha := inv_at h.inv hs
  cases t with
  | false =>
    refine (dropNone_any wr F B bk h.book 2 s ha).mono ?_
    rintro x w' ⟨rfl, hb⟩
    refine ⟨_, _, _, _, _, rfl, by rcases lcode_none ha with e | e <;> rw [e] <;> decide, ?_⟩
    have e : tb.set s false = tb := by
      obtain ⟨hi, e⟩ := List.getElem?_eq_some_iff.1 hs
      rw [← e]; exact List.set_getElem_self hi
    rw [e]
    exact St.below ⟨F, bk, h⟩ hb
  | true =>
    refine (dropSome_any wr F B bk h.book 2 s c0 ha).mono ?_
    rintro x w' ⟨rfl, bk', hB, hE, hD⟩
    exact ⟨_, _, _, _, _, rfl, by decide, h.turn hB hE (drop_inv h.inv (fun i l hl => hB.l48 hl) hD)⟩
theorem St.room (h : St w wr B nt nc tb tm) (hf : ∀ s, s < 48 → tb[s]? = some true) :
    Calls Try.prog 17 #[.pointer (some ⟨B, 0, none⟩), .int .i64 2] wr fun x w' => x = .returned (.int .i64 0) ∧ w' = wr := by
  obtain ⟨F, bk, h⟩ := h
  refine (room_any wr F B bk h.book 2 _ h.inv.two).mono ?_
  rintro x w' ⟨rfl, rfl⟩
  rw [inv_full_count h.inv.len hf]
  exact ⟨rfl, rfl⟩
theorem St.on (h : St w wr B nt nc tb tm) (hf : ∀ s, s < 48 → tb[s]? = some true) :
    Calls Try.prog 18 #[.pointer (some ⟨B, 0, none⟩), .int .i64 3, .int .i64 0] wr fun x w' => x = .returned (.int .i64 48) ∧ Below w.heap.size w w' := by
  obtain ⟨F, bk, h⟩ := h
  refine (on_any wr F B bk h.book 3 0).mono ?_
  rintro x w' ⟨rfl, hb⟩
  rw [inv_on h.inv hf]
  exact ⟨rfl, h.bel.trans (hb.mono h.bel.size)⟩
end
end Go.Proofs.Ytimfgjndgfjjgaa
