import Derived.Test.YtclbgmkodjiapaaAB
namespace Go.Proofs.Ytclbgmkodjiapaa
open Go.RowKit Go.Shelf

/-- no panic -/
def noP (Q : Exit → Act → World → Prop) (e : Exit) (a : Act) (w : World) : Prop := (∀ c, e ≠ .panic c) ∧ Q e a w
/-- a range over the table, as far as it has come: the boxes n and good, and all that stays -/
def RI (w : World) (B R : Nat) (G : Nat → Prop) (T : Nat → List (Option Int)) (L : List (Nat × Int)) (D c12 c13 : Nat) (bs : List (Nat × Obj)) (pre : List (Nat × Int)) (W : World) : Prop :=
  ∃ F', St w W F' B (T pre.length) G R (T pre.length) ((c12, .cells #[.int .i64 (pre.length : Nat)] 3 (0, 0)) :: (c13, .cells #[.bool true] 4 (0, 0)) :: bs) ∧ (∀ b, F' b ∨ G b → b ≠ D ∧ b ≠ D + 1) ∧ pre = L.take pre.length ∧ pre.length ≤ L.length
theorem RI.own {w W W' : World} {B R : Nat} {G : Nat → Prop} {T : Nat → List (Option Int)} {L : List (Nat × Int)} {D c12 c13 base : Nat} {bs : List (Nat × Obj)} {pre : List (Nat × Int)} {row : Option Nat} (h : RI w B R G T L D c12 c13 bs pre W) (hbase : w.heap.size ≤ base) (h12 : c12 < base) (h13 : c13 < base) (hbs : ∀ p ∈ bs, p.1 < base) (hg : W.grownBy W' row) (hr : ∀ r, row = some r → base ≤ r ∧ ∃ o : Obj, W.heap[r]? = some o ∧ o.isCells = false) : RI w B R G T L D c12 c13 bs pre W' := by
  obtain ⟨F', h1, h2⟩ := h
  refine ⟨F', h1.own hbase (fun p hp => .inr ?_) hg hr, h2⟩
  rcases List.mem_cons.1 hp with rfl | hp
  · exact h12
  rcases List.mem_cons.1 hp with rfl | hp
  · exact h13
  exact hbs p hp
theorem RI.iter {w W : World} {B R : Nat} {G : Nat → Prop} {T : Nat → List (Option Int)} {L : List (Nat × Int)} {D c12 c13 c7 : Nat} {bs : List (Nat × Obj)} {pre : List (Nat × Int)} (h : RI w B R G T L D c12 c13 bs pre W) (hb : (c7 + 1 + 1, Obj.cells #[.pointer (some ⟨B, 0, none⟩)] 25 (0, 0)) ∈ bs) :
    (∃ F, Tab KI W F B (T pre.length)) ∧ W.heap[c7 + 1 + 1]? = some (.cells #[.pointer (some ⟨B, 0, none⟩)] 25 (0, 0)) := by
  obtain ⟨F', h1, _⟩ := h
  exact ⟨⟨F', h1.duo.tab⟩, (h1.bx _ (List.mem_cons_of_mem _ (List.mem_cons_of_mem _ hb))).1⟩
/-- the pair that the range gives is the document's -/
theorem RI.got {w W : World} {B R : Nat} {G : Nat → Prop} {T : Nat → List (Option Int)} {lv : Nat → Bool} {L : List (Nat × Int)} {D c12 c13 : Nat} {bs : List (Nat × Obj)} {pre : List (Nat × Int)} {x : Nat × Int} (h : RI w B R G T L D c12 c13 bs pre W) (hL : Runs T lv L) (hs : ∀ j, j < pre.length → lv j = false) (hx : Nx (T pre.length) (lp pre) x) : L[pre.length]? = some x := by
  obtain ⟨F', _, _, h2, h3⟩ := h
  exact hL.next h3 hs (by rw [← h2]; exact hx)
theorem Want.cell {Z : Nat → Int × Int × Int × Int} {len : Nat} {m : List (Option Int)} {v : Value} {L : List (Nat × Int)} {bw : List (Nat × Obj)} (h : Want Z len m v L bw) {W : World} (hb : ∀ q ∈ bw, W.heap[q.1]? = some q.2) {p : Nat} {x : Nat × Int} (hx : L[p]? = some x) :
    ∃ g cap, v = .slice (some ⟨g, 0, none⟩) L.length cap ∧ W.cell? ⟨g, p * 2, none⟩ = some (.int .i64 (x.1 : Nat)) ∧ W.cell? ⟨g, p * 2 + 1, none⟩ = some (.int .i64 x.2) := by
  have h' := h.2.2.2.2 W hb
  have h1 := h'
  have hp := (List.getElem?_eq_some_iff.1 hx).1
  obtain ⟨_, ⟨rfl, h2⟩ | ⟨g, cap, cur, rfl, _⟩⟩ := h1
  · omega
  · obtain ⟨e1, e2⟩ := encG_at L p x hx
    have q1 := World.ownsRow.cells h' rfl _ _ e1
    have q2 := World.ownsRow.cells h' rfl _ _ e2
    rw [add0] at q1 q2
    exact ⟨g, cap, rfl, q1, q2⟩
theorem take_snoc {L pre : List (Nat × Int)} {x : Nat × Int} (h : pre = L.take pre.length) (hx : L[pre.length]? = some x) : pre ++ [x] = L.take (pre ++ [x]).length := by
  rw [List.length_append, List.length_singleton, List.take_add_one, ← h, hx]; rfl
end Go.Proofs.Ytclbgmkodjiapaa
