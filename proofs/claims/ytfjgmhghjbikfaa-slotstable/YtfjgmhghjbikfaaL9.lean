import Derived.Test.YtfjgmhghjbikfaaL7
import Derived.Test.YtfjgmhghjbikfaaO1
import Derived.Deep.Cut
import Derived.Deep.RegionHeld
namespace Go.Proofs.Ytfjgmhghjbikfaa
open Go.RowKit

section
variable {P : Program} {ops : Array Oper} {Q : Exit → Act → World → Prop} {S : World → Prop} {fuel : Nat} {listed : Array Bool} {a : Act} {w : World}
/-- the one operation that may come up -/
theorem hd_call (i : Nat) {o : Oper} (hr : Region.ready .any ops listed = [i]) (ho : ops[i]? = some o) (hw : Region.wanted o (yielded ops a.tmps) = true)
    (h : ∀ K : Act → World → Prop, (∀ a w, S w → wpAnyH P .any ops Q S fuel (listed.setIfInBounds i true) a w → K a w) → Oper.wp P o a w K Q) : wpAnyH P .any ops Q S (fuel + 1) listed a w := by
  refine wpAnyH_ready hr (by simp) (AllReadyH.cons ho (fun K hK => ?_) AllReadyH.nil)
  rw [if_pos hw]
  exact h K (fun a w hS hh => hK.out a w hS (fun _ => hh))
/-- what yields in whatever world that meets S -/
theorem hd_take (i : Nat) {o : Oper} (v : Value) (hs : Region.noSelect ops = true) (hf : Region.free .any ops listed i = true) (hr : (Region.ready .any ops listed).contains i = true) (ho : ops[i]? = some o) (hw : Region.wanted o (yielded ops a.tmps) = true)
    (hy : ∀ w, S w → (execOp a.eval o).run P w = .ok (.value v) w)
    (hQ : ∀ c a w, Q (.panic c) (a.put o.dst v) w → Q (.panic c) a w) (h0 : S w) (h : wpAnyH P .any ops Q S fuel (listed.setIfInBounds i true) (a.put o.dst v) w) : wpAnyH P .any ops Q S (fuel + 1) listed a w :=
  wpAnyH_take ho hs hf hr hQ (Or.inl ⟨hw, hy⟩) h0 h
/-- the two operations that may come up -/
theorem hd_two (i j : Nat) {o1 o2 : Oper} (hr : Region.ready .any ops listed = [i, j]) (ho1 : ops[i]? = some o1) (ho2 : ops[j]? = some o2) (hw1 : Region.wanted o1 (yielded ops a.tmps) = true) (hw2 : Region.wanted o2 (yielded ops a.tmps) = true)
    (h1 : ∀ K : Act → World → Prop, (∀ a w, S w → wpAnyH P .any ops Q S fuel (listed.setIfInBounds i true) a w → K a w) → Oper.wp P o1 a w K Q)
    (h2 : ∀ K : Act → World → Prop, (∀ a w, S w → wpAnyH P .any ops Q S fuel (listed.setIfInBounds j true) a w → K a w) → Oper.wp P o2 a w K Q) : wpAnyH P .any ops Q S (fuel + 1) listed a w := by
  refine wpAnyH_ready hr (by simp) (AllReadyH.cons ho1 (fun K hK => ?_) (AllReadyH.cons ho2 (fun K hK => ?_) AllReadyH.nil))
  · rw [if_pos hw1]; exact h1 K (fun a w hS hh => hK.out a w hS (fun _ => hh))
  · rw [if_pos hw2]; exact h2 K (fun a w hS hh => hK.out a w hS (fun _ => hh))
end
theorem add_pos (a : Addr) (i : Nat) (h : i ≠ 0) : a.add i = ⟨a.block, a.off + i, none⟩ := by
  unfold Addr.add; rw [if_neg h]
theorem quad_at {w wr : World} {a1 : Option Addr} {len : Nat} {Z : Nat → Int × Int × Int × Int} (h : IsQuads w a1 len Z) (hb : Below w.heap.size w wr) {k : Nat} (hk : k < len) :
    ∃ x, a1 = some x ∧ wr.cell? (x.add (k * 4)) = some (.int .i64 (Z k).1) ∧ wr.cell? ⟨(x.add (k * 4)).block, (x.add (k * 4)).off + 1, none⟩ = some (.int .i64 (Z k).2.1) ∧ wr.cell? ⟨(x.add (k * 4)).block, (x.add (k * 4)).off + 2, none⟩ = some (.int .i64 (Z k).2.2.1) ∧ wr.cell? ⟨(x.add (k * 4)).block, (x.add (k * 4)).off + 3, none⟩ = some (.int .i64 (Z k).2.2.2) := by
  obtain ⟨x, rfl, h0, h1, h2, h3⟩ := h k hk
  have keep : ∀ (p : Addr) (v : Value), w.cell? p = some v → wr.cell? p = some v := fun p v hv => by
    have hl : p.block < w.heap.size := by
      rcases Nat.lt_or_ge p.block w.heap.size with h | h
      · exact h
      · exfalso; simp [World.cell?, Array.getElem?_eq_none h] at hv
    exact (hb.cell hl).trans hv
  have e : ∀ i, i ≠ 0 → x.add (k * 4 + i) = ⟨(x.add (k * 4)).block, (x.add (k * 4)).off + i, none⟩ := fun i hi => by
    rw [← Go.Deep.add_add, add_pos _ _ hi]
  rw [e 1 (by decide)] at h1
  rw [e 2 (by decide)] at h2
  rw [e 3 (by decide)] at h3
  exact ⟨x, rfl, keep _ _ h0, keep _ _ h1, keep _ _ h2, keep _ _ h3⟩
/-- copies under way: those that are made, and the box -/
structure PgAt (wB W : World) (n1 n2 n3 nb : Option Nat) (m : List (Option Int)) (F1 F2 F3 : Nat → Prop) : Prop where
  bel : Below wB.heap.size wB W
  t1 : ∀ C, n1 = some C → Tab KI W F1 C m
  t2 : ∀ C, n2 = some C → Tab KC W F2 C (mc m)
  t3 : ∀ C, n3 = some C → Ref W F3 C m
  bx : ∀ b, nb = some b → W.heap[b]? = some (.cells #[.pointer none, .pointer none, .pointer none] 28 (0, 0)) ∧ ¬ F1 b ∧ ¬ F2 b ∧ ¬ F3 b ∧ wB.heap.size ≤ b
  d12 : ∀ x, F1 x → ¬ F2 x
  d13 : ∀ x, F1 x → ¬ F3 x
  d23 : ∀ x, F2 x → ¬ F3 x
  rg : ∀ x, F1 x ∨ F2 x ∨ F3 x → wB.heap.size ≤ x ∧ x < W.heap.size
def Pg (wB W : World) (n1 n2 n3 nb : Option Nat) (m : List (Option Int)) : Prop := ∃ F1 F2 F3, PgAt wB W n1 n2 n3 nb m F1 F2 F3
section
variable {wB W W' : World} {n1 n2 n3 nb : Option Nat} {m : List (Option Int)}
theorem Pg.bel (h : Pg wB W n1 n2 n3 nb m) : Below wB.heap.size wB W := by obtain ⟨_, _, _, h⟩ := h; exact h.bel
theorem Pg.start (wB : World) (m : List (Option Int)) : Pg wB wB.drew none none none none m :=
  ⟨fun _ => False, fun _ => False, fun _ => False, (Below.refl _ _).drew, by simp, by simp, by simp, by simp, fun _ h => h.elim, fun _ h => h.elim, fun _ h => h.elim, fun x h => by simp at h⟩
theorem PgAt.below {F1 F2 F3 : Nat → Prop} (h : PgAt wB W n1 n2 n3 nb m F1 F2 F3) (hb : Below W.heap.size W W') : PgAt wB W' n1 n2 n3 nb m F1 F2 F3 :=
  ⟨h.bel.trans (hb.mono h.bel.size), fun C e => (h.t1 C e).below hb, fun C e => (h.t2 C e).below hb, fun C e => (h.t3 C e).below hb, fun b e => by obtain ⟨q1, q2⟩ := h.bx b e; exact ⟨(hb.block b (heap_lt q1)).trans q1, q2⟩, h.d12, h.d13, h.d23, fun x hx => ⟨(h.rg x hx).1, Nat.lt_of_lt_of_le (h.rg x hx).2 hb.size⟩⟩
theorem Pg.c1 (h : Pg wB W none n2 n3 nb m) {C : Nat} {F : Nat → Prop} (hT : Tab KI W' F C m) (lo : ∀ x, F x → W.heap.size ≤ x) (hb : Below W.heap.size W W') : Pg wB W' (some C) n2 n3 nb m := by
  obtain ⟨F1, F2, F3, h⟩ := h
  have h' := h.below hb
  have s := h.bel.size
  refine ⟨F, F2, F3, h'.bel, fun C' e => by cases e; exact hT, h'.t2, h'.t3, fun b e => ?_, fun x a b => ?_, fun x a b => ?_, h.d23, fun x hx => ?_⟩
  · obtain ⟨q1, q2, q3, q4, q5⟩ := h'.bx b e
    exact ⟨q1, fun hf => by have := lo b hf; have := heap_lt (h.bx b e).1; omega, q3, q4, q5⟩
  · have := lo x a; have := (h.rg x (.inr (.inl b))).2; omega
  · have := lo x a; have := (h.rg x (.inr (.inr b))).2; omega
  · rcases hx with hx | hx
    · exact ⟨by have := lo x hx; omega, hT.lt x hx⟩
    · exact h'.rg x (.inr hx)
theorem Pg.c2 (h : Pg wB W n1 none n3 nb m) {C : Nat} {F : Nat → Prop} (hT : Tab KC W' F C (mc m)) (lo : ∀ x, F x → W.heap.size ≤ x) (hb : Below W.heap.size W W') : Pg wB W' n1 (some C) n3 nb m := by
  obtain ⟨F1, F2, F3, h⟩ := h
  have h' := h.below hb
  have s := h.bel.size
  refine ⟨F1, F, F3, h'.bel, h'.t1, fun C' e => by cases e; exact hT, h'.t3, fun b e => ?_, fun x a b => ?_, h.d13, fun x a b => ?_, fun x hx => ?_⟩
  · obtain ⟨q1, q2, q3, q4, q5⟩ := h'.bx b e
    exact ⟨q1, q2, fun hf => by have := lo b hf; have := heap_lt (h.bx b e).1; omega, q4, q5⟩
  · have := lo x b; have := (h.rg x (.inl a)).2; omega
  · have := lo x a; have := (h.rg x (.inr (.inr b))).2; omega
  · rcases hx with hx | hx | hx
    · exact h'.rg x (.inl hx)
    · exact ⟨by have := lo x hx; omega, hT.lt x hx⟩
    · exact h'.rg x (.inr (.inr hx))
theorem Pg.c3 (h : Pg wB W n1 n2 none nb m) {C : Nat} {F : Nat → Prop} (hT : Ref W' F C m) (lo : ∀ x, F x → W.heap.size ≤ x) (hb : Below W.heap.size W W') : Pg wB W' n1 n2 (some C) nb m := by
  obtain ⟨F1, F2, F3, h⟩ := h
  have h' := h.below hb
  have s := h.bel.size
  refine ⟨F1, F2, F, h'.bel, h'.t1, h'.t2, fun C' e => by cases e; exact hT, fun b e => ?_, h.d12, fun x a b => ?_, fun x a b => ?_, fun x hx => ?_⟩
  · obtain ⟨q1, q2, q3, q4, q5⟩ := h'.bx b e
    exact ⟨q1, q2, q3, fun hf => by have := lo b hf; have := heap_lt (h.bx b e).1; omega, q5⟩
  · have := lo x b; have := (h.rg x (.inl a)).2; omega
  · have := lo x b; have := (h.rg x (.inr (.inl a))).2; omega
  · rcases hx with hx | hx | hx
    · exact h'.rg x (.inl hx)
    · exact h'.rg x (.inr (.inl hx))
    · exact ⟨by have := lo x hx; omega, hT.lt x hx⟩
theorem Pg.al (h : Pg wB W n1 n2 n3 none m) : Pg wB (W.alloc (.cells #[.pointer none, .pointer none, .pointer none] 28)) n1 n2 n3 (some W.heap.size) m := by
  obtain ⟨F1, F2, F3, h⟩ := h
  have h' := h.below ((Below.refl W.heap.size W).alloc (Nat.le_refl _) (.cells #[.pointer none, .pointer none, .pointer none] 28))
  refine ⟨F1, F2, F3, h'.bel, h'.t1, h'.t2, h'.t3, fun b e => ?_, h.d12, h.d13, h.d23, h'.rg⟩
  cases e
  exact ⟨heap_alloc_new _ _, fun hf => by have := (h.rg _ (.inl hf)).2; omega, fun hf => by have := (h.rg _ (.inr (.inl hf))).2; omega, fun hf => by have := (h.rg _ (.inr (.inr hf))).2; omega, h.bel.size⟩
theorem Pg.cells {b : Nat} (h : Pg wB W n1 n2 n3 (some b) m) : (∃ x0, W.cell? ⟨b, 0, none⟩ = some x0) ∧ (∃ x1, W.cell? ⟨b, 1, none⟩ = some x1) ∧ (∃ x2, W.cell? ⟨b, 2, none⟩ = some x2) ∧ W.frozen? ⟨b, 0, none⟩ = false ∧ W.frozen? ⟨b, 1, none⟩ = false ∧ W.frozen? ⟨b, 2, none⟩ = false ∧ wB.heap.size ≤ b := by
  obtain ⟨F1, F2, F3, h⟩ := h
  obtain ⟨q1, q2, q3, q4, q5⟩ := h.bx b rfl
  obtain ⟨a1, a2, a3, a4, a5, a6⟩ := blk3 q1
  exact ⟨⟨_, a1⟩, ⟨_, a2⟩, ⟨_, a3⟩, a4, a5, a6, q5⟩
theorem Pg.fin {C1 C2 C3 b : Nat} (h : Pg wB W (some C1) (some C2) (some C3) (some b) m) (hW : W' = ((W.setCell ⟨b, 0, none⟩ (.pointer (some ⟨C1, 0, none⟩))).setCell ⟨b, 1, none⟩ (.pointer (some ⟨C2, 0, none⟩))).setCell ⟨b, 2, none⟩ (.pointer (some ⟨C3, 0, none⟩))) :
    Below wB.heap.size wB W' ∧ W'.heap[b]? = some (.cells #[.pointer (some ⟨C1, 0, none⟩), .pointer (some ⟨C2, 0, none⟩), .pointer (some ⟨C3, 0, none⟩)] 28 (0, 0)) ∧ ∃ G, Tri W' G C1 C2 C3 m ∧ ∀ x, G x → wB.heap.size ≤ x := by
  subst hW
  obtain ⟨F1, F2, F3, h⟩ := h
  obtain ⟨q1, q2, q3, q4, q5⟩ := h.bx b rfl
  refine ⟨((h.bel.setCell (p := ⟨b, 0, none⟩) q5 _).setCell (p := ⟨b, 1, none⟩) q5 _).setCell (p := ⟨b, 2, none⟩) q5 _, set3 q1 _ _ _, fun x => F1 x ∨ F2 x ∨ F3 x, ⟨F1, F2, F3, ?_, fun x => Iff.rfl⟩, fun x hx => (h.rg x hx).1⟩
  have hT : T3 W F1 F2 F3 C1 C2 C3 m (mc m) m := ⟨h.t1 _ rfl, h.t2 _ rfl, h.t3 _ rfl, h.d12, h.d13, h.d23⟩
  refine hT.keep (by simp [World.setCell]) (fun x hx => ?_)
  have hne : x ≠ b := by
    rintro rfl
    rcases hx with hx | hx | hx
    · exact q2 hx
    · exact q3 hx
    · exact q4 hx
  rw [heap_setCell_other _ _ _ _ hne, heap_setCell_other _ _ _ _ hne, heap_setCell_other _ _ _ _ hne]
end
end Go.Proofs.Ytfjgmhghjbikfaa
