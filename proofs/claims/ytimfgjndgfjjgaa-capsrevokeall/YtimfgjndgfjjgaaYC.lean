import Derived.Test.YtimfgjndgfjjgaaYB
namespace Go.Proofs.Ytimfgjndgfjjgaa
open Go.RowKit Go.Shelf

/-- a book of the law's own, with a fact on its lists that hangs on nothing else -/
structure SgAt (P : List (Option Lst) → Prop) (w wr : World) (B : Nat) (F : Nat → Prop) (bk : List (Option Lst)) (f : Int → Int → Nat) : Prop where
  book : Book wr F B bk
  inv : P bk
  snd : Snd bk f
  lo : ∀ b, F b → w.heap.size ≤ b
  bel : Below w.heap.size w wr
def Sg (P : List (Option Lst) → Prop) (w wr : World) (B : Nat) : Prop := ∃ F bk f, SgAt P w wr B F bk f
section
variable {P : List (Option Lst) → Prop} {w wr : World} {B : Nat}
theorem SgAt.turn {F F' : Nat → Prop} {bk bk' : List (Option Lst)} {f f' : Int → Int → Nat} (h : SgAt P w wr B F bk f) {w' : World} (hB : Book w' F' B bk') (hE : Ext F wr F' w') (hP : P bk') (hS : Snd bk' f') : SgAt P w w' B F' bk' f' := by
  refine ⟨hB, hP, hS, fun b hb => ?_, h.bel.trans (hE.mod.below h.lo h.bel.size)⟩
  rcases hE.new b hb with h1 | h1
  · exact h.lo b h1
  · exact Nat.le_trans h.bel.size h1
theorem Sg.bel (h : Sg P w wr B) : Below w.heap.size w wr := by obtain ⟨F, bk, f, h⟩ := h; exact h.bel
theorem Sg.below (h : Sg P w wr B) {w' : World} (hb : Below wr.heap.size wr w') : Sg P w w' B := by
  obtain ⟨F, bk, f, h⟩ := h
  exact ⟨F, bk, f, h.turn (h.book.below hb) (Ext.of_below hb) h.inv h.snd⟩
theorem Sg.play (h : Sg P w wr B) (o : Ov) (hst : ∀ bk f bk', Snd bk f → (∀ (i : Nat) (l : Lst), bk[i]? = some (some l) → l.length = 48) → P bk → Step o.o bk bk' → P bk') :
    Calls Try.prog 19 #[.pointer (some ⟨B, 0, none⟩), .agg o.cells.toArray] wr fun x w' => x = .returned (.tuple #[]) ∧ Sg P w w' B := by
  obtain ⟨F, bk, f, h⟩ := h
  rw [ov_val]
  refine (play_any wr F B bk h.book f h.snd.rk o.o o.two _).mono ?_
  rintro x w' ⟨rfl, bk', F', hB, hE, hS⟩
  have h48 : ∀ (i : Nat) (l : Lst), bk[i]? = some (some l) → l.length = 48 := fun i l hl => h.book.l48 hl
  obtain ⟨f', hf'⟩ := hS.snd h.snd h48
  exact ⟨rfl, F', bk', f', h.turn hB hE (hst bk f bk' h.snd h48 h.inv hS) hf'⟩
theorem Sg.all (h : Sg P w wr B) : Calls Try.prog 20 #[.pointer (some ⟨B, 0, none⟩)] wr fun x w' => ∃ v bk, x = .returned v ∧ w'.ownsRow wr.heap.size 54 6 v (hl bk 16).length (encA (hl bk 16)) ∧ Below wr.heap.size wr w' ∧ P bk ∧ (hl bk 16).length ≤ 768 ∧ ∃ F f, SgAt P w w' B F bk f := by
  obtain ⟨F, bk, f, h⟩ := h
  refine (all_any wr F B bk h.book).mono ?_
  rintro x w' ⟨v, rfl, hr, hb⟩
  exact ⟨v, bk, rfl, hr, hb, h.inv, hl_len h.book 16, F, f, h.turn (h.book.below hb) (Ext.of_below hb) h.inv h.snd⟩
end
theorem encA_len (l : List (Int × (Nat × Rc))) : (encA l).length = l.length * 6 := by
  induction l with
  | nil => rfl
  | cons x t ih => simp only [encA, List.flatMap_cons, List.length_append, List.length_cons] at ih ⊢; rw [ih]; simp [encH]; omega
theorem encA_at : ∀ {l : List (Int × (Nat × Rc))} {k : Nat} (hk : k < l.length) (j : Nat) (_ : j < 6), (encA l)[k * 6 + j]? = (encH l[k].1 l[k].2)[j]?
  | x :: t, 0, _, j, hj => by
    simp only [encA, List.flatMap_cons, Nat.zero_mul, Nat.zero_add, List.getElem_cons_zero]
    rw [List.getElem?_append_left (by simp [encH]; omega)]
  | x :: t, k + 1, hk, j, hj => by
    have := encA_at (l := t) (k := k) (by simpa using hk) j hj
    simp only [encA, List.flatMap_cons, List.getElem_cons_succ] at this ⊢
    rw [← this, List.getElem?_append_right (by simp [encH]; omega)]
    congr 1
    simp [encH]; omega
/-- a slice whose elements are these -/
def HeldAt (w : World) (v : Value) (l : List (Int × (Nat × Rc))) : Prop :=
  ∃ a c, v = .slice a l.length c ∧ ∀ k (hk : k < l.length), ∃ g, a = some ⟨g, 0, none⟩ ∧ g < w.heap.size ∧ w.cell? ⟨g, k * 6, none⟩ = some (.int .i64 l[k].1) ∧ w.cell? ⟨g, k * 6 + 1, none⟩ = some (.int .i64 (l[k].2.1 : Int)) ∧ w.cell? ⟨g, k * 6 + 2, none⟩ = some (.int .i64 l[k].2.2.k) ∧ w.cell? ⟨g, k * 6 + 3, none⟩ = some (.int .i64 l[k].2.2.o) ∧ w.cell? ⟨g, k * 6 + 4, none⟩ = some (.int .i64 l[k].2.2.s) ∧ w.cell? ⟨g, k * 6 + 5, none⟩ = some (.int .i64 l[k].2.2.r)
theorem HeldAt.below {w w' : World} {v : Value} {l : List (Int × (Nat × Rc))} (h : HeldAt w v l) (hb : Below w.heap.size w w') : HeldAt w' v l := by
  obtain ⟨a, c, rfl, h⟩ := h
  refine ⟨a, c, rfl, fun k hk => ?_⟩
  obtain ⟨g, h1, h2, h3, h4, h5, h6, h7, h8⟩ := h k hk
  have hc : ∀ j, w'.cell? ⟨g, j, none⟩ = w.cell? ⟨g, j, none⟩ := fun j => hb.cell h2
  exact ⟨g, h1, Nat.lt_of_lt_of_le h2 hb.size, by rw [hc]; exact h3, by rw [hc]; exact h4, by rw [hc]; exact h5, by rw [hc]; exact h6, by rw [hc]; exact h7, by rw [hc]; exact h8⟩
theorem HeldAt.of_row {w : World} {base : Nat} {v : Value} {l : List (Int × (Nat × Rc))} (h : w.ownsRow base 54 6 v l.length (encA l)) : HeldAt w v l := by
  obtain ⟨a, c, rfl⟩ := own_shape h
  refine ⟨a, c, rfl, fun k hk => ?_⟩
  have h' := h
  obtain ⟨_, ⟨h0, h00⟩ | ⟨g0, cap, cur, hv0, hgb, hg0, _⟩⟩ := h
  · omega
  · cases hv0
    have hq : ∀ j, j < 6 → w.cell? ⟨g0, k * 6 + j, none⟩ = (encH l[k].1 l[k].2)[j]? := fun j hj => by
      rw [h'.cellAt (k * 6 + j) (by omega), encA_at hk j hj]
    exact ⟨g0, rfl, (Array.getElem?_eq_some_iff.1 hg0).1, hq 0 (by omega), hq 1 (by omega), hq 2 (by omega), hq 3 (by omega), hq 4 (by omega), hq 5 (by omega)⟩
theorem Ob.setq {w : World} {N : Nat} {o : Ov} (h : Ob w N o) (z : Int) : Ob (w.setCell ⟨N, 1, none⟩ (.int .i64 z)) N { o with o := { o.o with q := z } } := by
  obtain ⟨⟨q, e, s, t, a, r, ck, co, cs, cr⟩, two, ia, il, ic⟩ := o
  refine ⟨?_⟩
  have h1 := heap_setCell_same _ N 1 _ _ (.int .i64 z) h.out
  rw [h1]
  rfl
end Go.Proofs.Ytimfgjndgfjjgaa
