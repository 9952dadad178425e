import Derived.Test.YtimfgjndgfjjgaaV4
namespace Go.Proofs.Ytimfgjndgfjjgaa
open Go.RowKit

structure PAt (w wr : World) (B : Nat) (vl vt : Value) (line : List (Nat × Nat)) (th : List Bool) (lm : List (Nat × Nat)) (tm : List Bool) (F : Nat → Prop) (bk : List (Option Lst)) : Prop where
  book : Book wr F B bk
  inv : LineI line th bk
  rl : wr.ownsRow w.heap.size 28 2 vl lm.length (encPs lm)
  rt : wr.ownsRow w.heap.size 4 1 vt tm.length (tm.map Value.bool)
  nl : ∀ g, vl.ownBlock = some g → ¬ F g
  nt : ∀ g, vt.ownBlock = some g → ¬ F g
  lo : ∀ b, F b → w.heap.size ≤ b
  bel : Below w.heap.size w wr
/-- the book has the line's first word, the law's own slices its second -/
def PSt (w wr : World) (B : Nat) (vl vt : Value) (line : List (Nat × Nat)) (th : List Bool) (lm : List (Nat × Nat)) (tm : List Bool) : Prop := ∃ F bk, PAt w wr B vl vt line th lm tm F bk
section
variable {w wr : World} {B : Nat} {vl vt : Value} {line lm : List (Nat × Nat)} {th tm : List Bool}
theorem row_mod {F : Nat → Prop} {a b : World} {base : Nat} {e : TypeId} {z : Nat} {v : Value} {n : Nat} {xs : List Value} (h : a.ownsRow base e z v n xs) (hm : Mod F a b) (hn : ∀ g, v.ownBlock = some g → ¬ F g) : b.ownsRow base e z v n xs := by
  obtain ⟨h1, h2 | ⟨g, cap, cur, h2, h3, h4, h5⟩⟩ := h
  · exact ⟨h1, .inl h2⟩
  · exact ⟨h1, .inr ⟨g, cap, cur, h2, h3, (hm.block g (Array.getElem?_eq_some_iff.1 h4).1 (hn g (by rw [h2]; rfl))).trans h4, h5⟩⟩
theorem PAt.turn {F F' : Nat → Prop} {bk bk' : List (Option Lst)} (h : PAt w wr B vl vt line th lm tm F bk) {w' : World} {line' : List (Nat × Nat)} {th' : List Bool} (hB : Book w' F' B bk') (hE : Ext F wr F' w') (hI : LineI line' th' bk') : PSt w w' B vl vt line' th' lm tm := by
  refine ⟨F', bk', hB, hI, row_mod h.rl hE.mod h.nl, row_mod h.rt hE.mod h.nt, fun g hg hf => ?_, fun g hg hf => ?_, fun b hb => ?_, h.bel.trans (hE.mod.below h.lo h.bel.size)⟩
  · rcases hE.new g hf with h1 | h1
    · exact h.nl g hg h1
    · have := (h.rl.lt g hg).2; omega
  · rcases hE.new g hf with h1 | h1
    · exact h.nt g hg h1
    · have := (h.rt.lt g hg).2; omega
  · rcases hE.new b hb with h1 | h1
    · exact h.lo b h1
    · exact Nat.le_trans h.bel.size h1
theorem PSt.below (h : PSt w wr B vl vt line th lm tm) {w' : World} (hb : Below wr.heap.size wr w') : PSt w w' B vl vt line th lm tm := by
  obtain ⟨F, bk, h⟩ := h
  exact h.turn (h.book.below hb) (Ext.of_below hb) h.inv
theorem PSt.bel (h : PSt w wr B vl vt line th lm tm) : Below w.heap.size w wr := by obtain ⟨F, bk, h⟩ := h; exact h.bel
theorem PSt.appL (h : PSt w wr B vl vt line th lm tm) {o : Obj} {v' : Value} {w1 : World} {p : Nat × Nat} {n : Nat} (hn : n = lm.length) (ho : w1.ownsRow w.heap.size 28 2 v' (n + 1) (encPs lm ++ [.int .i64 (p.1 : Int), .int .i64 (p.2 : Int)])) (hg : (wr.alloc o).grownBy w1 vl.ownBlock) (hl : v'.ownBlock = vl.ownBlock ∨ v'.ownBlock = some (wr.alloc o).heap.size) :
    PSt w w1 B v' vt line th (lm ++ [p]) tm := by
  subst hn
  obtain ⟨F, bk, h⟩ := h
  have hblk : ∀ b, F b → w1.heap[b]? = wr.heap[b]? := fun b hb => (hg.block b (by have := h.book.lt b hb; simp; omega) (fun e => h.nl b e.symm hb)).trans (Below.heap_alloc _ _ _ (h.book.lt b hb))
  have hsz : wr.heap.size ≤ w1.heap.size := by have := hg.size; simp at this; omega
  refine ⟨F, bk, h.book.keep hsz hblk, h.inv, ?_, (h.rt.alloc o).kept hg (rows_ne h.rt h.rl (by decide)), fun g hg' hf => ?_, h.nt, h.lo, ?_⟩
  · rw [List.length_append, encPs_snoc]; exact ho
  · rcases hl with e | e
    · rw [e] at hg'; exact h.nl g hg' hf
    · rw [e] at hg'; cases hg'; have := h.book.lt _ hf; simp at this; omega
  · exact (h.bel.alloc h.bel.size o).grown hg (by simp; have := h.bel.size; omega) (fun j hj => (h.rl.lt j hj).1)
theorem PSt.appT (h : PSt w wr B vl vt line th lm tm) {o : Obj} {v' : Value} {w1 : World} {t : Bool} {n : Nat} (hn : n = tm.length) (ho : w1.ownsRow w.heap.size 4 1 v' (n + 1) (tm.map Value.bool ++ [.bool t])) (hg : (wr.alloc o).grownBy w1 vt.ownBlock) (hl : v'.ownBlock = vt.ownBlock ∨ v'.ownBlock = some (wr.alloc o).heap.size) :
    PSt w w1 B vl v' line th lm (tm ++ [t]) := by
  subst hn
  obtain ⟨F, bk, h⟩ := h
  have hblk : ∀ b, F b → w1.heap[b]? = wr.heap[b]? := fun b hb => (hg.block b (by have := h.book.lt b hb; simp; omega) (fun e => h.nt b e.symm hb)).trans (Below.heap_alloc _ _ _ (h.book.lt b hb))
  have hsz : wr.heap.size ≤ w1.heap.size := by have := hg.size; simp at this; omega
  refine ⟨F, bk, h.book.keep hsz hblk, h.inv, (h.rl.alloc o).kept hg (rows_ne h.rl h.rt (by decide)), ?_, h.nl, fun g hg' hf => ?_, h.lo, ?_⟩
  · rw [List.length_append, List.map_append]; exact ho
  · rcases hl with e | e
    · rw [e] at hg'; exact h.nt g hg' hf
    · rw [e] at hg'; cases hg'; have := h.book.lt _ hf; simp at this; omega
  · exact (h.bel.alloc h.bel.size o).grown hg (by simp; have := h.bel.size; omega) (fun j hj => (h.rt.lt j hj).1)
theorem PSt.lcell (h : PSt w wr B vl vt line th lm tm) {k : Nat} {p : Nat × Nat} (hp : lm[k]? = some p) : ∃ g c, vl = .slice (some ⟨g, 0, none⟩) lm.length c ∧ wr.cell? ⟨g, k * 2, none⟩ = some (.int .i64 (p.1 : Int)) ∧ wr.cell? ⟨g, k * 2 + 1, none⟩ = some (.int .i64 (p.2 : Int)) := by
  obtain ⟨F, bk, h⟩ := h
  have hk : k < lm.length := (List.getElem?_eq_some_iff.1 hp).1
  have hpe : lm[k] = p := (List.getElem?_eq_some_iff.1 hp).2
  obtain ⟨_, ⟨h0, h00⟩ | ⟨g, cap, cur, hv, _⟩⟩ := h.rl
  · omega
  · have hr := h.rl
    rw [hv] at hr
    refine ⟨g, cap, hv, ?_, ?_⟩
    · rw [hr.cellAt (k * 2) (by omega), (encPs_at hk).1, hpe]
    · rw [hr.cellAt (k * 2 + 1) (by omega), (encPs_at hk).2, hpe]
theorem PSt.tcell (h : PSt w wr B vl vt line th lm tm) {k : Nat} {t : Bool} (ht : tm[k]? = some t) : ∃ g c, vt = .slice (some ⟨g, 0, none⟩) tm.length c ∧ wr.cell? ⟨g, k, none⟩ = some (.bool t) ∧ wr.frozen? ⟨g, k, none⟩ = false ∧ ∀ b : Bool, PSt w (wr.setCell ⟨g, k, none⟩ (.bool b)) B vl vt line th lm (tm.set k b) := by
  obtain ⟨F, bk, h⟩ := h
  have hk : k < tm.length := (List.getElem?_eq_some_iff.1 ht).1
  obtain ⟨q1, ⟨h0, h00⟩ | ⟨g, cap, cur, hv, hgb, hg, hn, hc, hs, htk⟩⟩ := h.rt
  · omega
  · have hr := h.rt
    rw [hv] at hr
    have hnF : ¬ F g := h.nt g (by rw [hv]; rfl)
    refine ⟨g, cap, hv, by rw [hr.cellAt k (by omega)]; simp [ht], hr.frozenAt k, fun b => ⟨F, bk, h.book.keep (by simp [World.setCell]) (fun x hx => heap_setCell_other _ _ _ _ (fun e => by subst e; exact hnF hx)), h.inv, ?_, ?_, h.nl, h.nt, h.lo, h.bel.setCell (p := ⟨g, k, none⟩) hgb _⟩⟩
    · refine h.rl.kept (row := some g) ⟨rfl, rfl, rfl, by simp [World.setCell], fun x _ hx => Below.heap_setCell _ _ _ x (fun e => hx (by rw [e]))⟩ ?_
      have := rows_ne h.rl h.rt (by decide)
      rw [hv] at this
      exact this
    · have h9 := (hr.stored k (.bool b)).1
      rw [hv, List.map_set, List.length_set]
      exact h9
theorem PSt.derive (h : PSt w wr B vl vt line th lm tm) (hall : ∀ i, i < line.length → th[i]? = some true) (hpos : 0 < line.length) (hlt : line.length < 48) {p : Nat × Nat} (hp : line[line.length - 1]? = some p) :
    Calls Try.prog 10 #[.pointer (some ⟨B, 0, none⟩), .int .i64 (p.1 : Int), .int .i64 (p.2 : Int), .int .i64 ((line.length % 4 : Nat) : Int), .int .i64 (-1), .int .i64 15] wr fun x w' => ∃ k : Nat, x = .returned (.tuple #[.int .i64 (k : Int), .int .i64 0]) ∧ PSt w w' B vl vt (line ++ [(line.length % 4, k)]) (th ++ [true]) lm tm := by
  obtain ⟨F, bk, h⟩ := h
  refine (derive_any wr F B bk h.book _ _ _ (-1) 15).mono ?_
  rintro x w' ⟨v, c, bk', F', rfl, hB, hE, hD⟩
  obtain ⟨k, rfl, rfl, _, hI⟩ := line_derive h.inv (fun i l hl => h.book.l48 hl) hall hpos hlt hp hD
  exact ⟨k, rfl, h.turn hB hE hI⟩
theorem PSt.dropc (h : PSt w wr B vl vt line th lm tm) {d : Nat} {p : Nat × Nat} (hp : line[d]? = some p) (ht : th[d]? = some true) :
    Calls Try.prog 11 #[.pointer (some ⟨B, 0, none⟩), .int .i64 (p.1 : Int), .int .i64 (p.2 : Int)] wr fun x w' => x = .returned (.tuple #[.agg #[.int .i64 1, .int .i64 5, .int .i64 7, .int .i64 15], .int .i64 0]) ∧ PSt w w' B vl vt line (th.set d false) lm tm := by
  obtain ⟨F, bk, h⟩ := h
  refine (dropSome_any wr F B bk h.book p.1 p.2 _ (h.inv.yes d p hp ht)).mono ?_
  rintro x w' ⟨rfl, bk', hB, hE, hD⟩
  exact ⟨rfl, h.turn hB hE (line_drop h.inv hp ht hD)⟩
/-- the state hangs on the blocks below a number -/
theorem PAt.low {F : Nat → Prop} {bk : List (Option Lst)} (h : PAt w wr B vl vt line th lm tm F bk) {n : Nat} (hF : ∀ b, F b → b < n) (hl : ∀ g, vl.ownBlock = some g → g < n) (ht : ∀ g, vt.ownBlock = some g → g < n) (hn : w.heap.size ≤ n) {w' : World} (hb : Below n wr w') : PSt w w' B vl vt line th lm tm := by
  refine ⟨F, bk, h.book.keep hb.size (fun b hf => hb.block b (hF b hf)), h.inv, ?_, ?_, h.nl, h.nt, h.lo, h.bel.trans (hb.mono hn)⟩
  · obtain ⟨h1, h2 | ⟨g, cap, cur, h2, h3, h4, h5⟩⟩ := h.rl
    · exact ⟨h1, .inl h2⟩
    · exact ⟨h1, .inr ⟨g, cap, cur, h2, h3, (hb.block g (hl g (by rw [h2]; rfl))).trans h4, h5⟩⟩
  · obtain ⟨h1, h2 | ⟨g, cap, cur, h2, h3, h4, h5⟩⟩ := h.rt
    · exact ⟨h1, .inl h2⟩
    · exact ⟨h1, .inr ⟨g, cap, cur, h2, h3, (hb.block g (ht g (by rw [h2]; rfl))).trans h4, h5⟩⟩
/-- Drop from a world with new blocks, which stay, and may be written -/
theorem PSt.dropc2 (h : PSt w wr B vl vt line th lm tm) {d : Nat} {p : Nat × Nat} (hp : line[d]? = some p) (ht : th[d]? = some true) (W : World) (hW : Below wr.heap.size wr W) :
    Calls Try.prog 11 #[.pointer (some ⟨B, 0, none⟩), .int .i64 (p.1 : Int), .int .i64 (p.2 : Int)] W fun x w' => x = .returned (.tuple #[.agg #[.int .i64 1, .int .i64 5, .int .i64 7, .int .i64 15], .int .i64 0]) ∧ (∀ w'', Below wr.heap.size w' w'' → PSt w w'' B vl vt line (th.set d false) lm tm) ∧ W.heap.size ≤ w'.heap.size ∧ ∀ b, wr.heap.size ≤ b → b < W.heap.size → w'.heap[b]? = W.heap[b]? := by
  obtain ⟨F, bk, h⟩ := h
  have h2 : PAt w W B vl vt line th lm tm F bk := ⟨h.book.below hW, h.inv, own_below h.rl hW, own_below h.rt hW, h.nl, h.nt, h.lo, h.bel.trans (hW.mono h.bel.size)⟩
  refine (dropSome_any W F B bk h2.book p.1 p.2 _ (h2.inv.yes d p hp ht)).mono ?_
  rintro x w' ⟨rfl, bk', hB, hE, hD⟩
  refine ⟨rfl, fun w'' hw => ?_, hE.mod.size, fun b hb hlt => hE.mod.block b hlt (fun hf => by have := h.book.lt b hf; omega)⟩
  have h3 : PAt w w' B vl vt line (th.set d false) lm tm F bk' := ⟨hB, line_drop h2.inv hp ht hD, row_mod h2.rl hE.mod h.nl, row_mod h2.rt hE.mod h.nt, h.nl, h.nt, h.lo, h2.bel.trans (hE.mod.below h.lo h2.bel.size)⟩
  exact h3.low h.book.lt (fun g hg => (h.rl.lt g hg).2) (fun g hg => (h.rt.lt g hg).2) h.bel.size hw
theorem PSt.from (h : PSt w wr B vl vt line th lm tm) {d : Nat} {p : Nat × Nat} (hp : line[d]? = some p) (ht : th[d]? = some true) :
    Calls Try.prog 12 #[.pointer (some ⟨B, 0, none⟩), .int .i64 (p.1 : Int), .int .i64 (p.2 : Int)] wr fun x w' => x = .returned (.tuple #[.agg #[.int .i64 (upOf line th d).1, .int .i64 (upOf line th d).2], .int .i64 0]) ∧ PSt w w' B vl vt line th lm tm ∧ Below wr.heap.size wr w' := by
  have hK := h
  obtain ⟨F, bk, h⟩ := h
  have hat := h.inv.yes d p hp ht
  refine (from_any wr F B bk h.book _ _).mono ?_
  rintro x w' ⟨rfl, hb⟩
  rw [lcode_some hat, show fromB bk (p.1 : Int) (p.2 : Int) = upOf line th d by unfold fromB; rw [hat]; rfl]
  exact ⟨rfl, hK.below hb, hb⟩
theorem PSt.up (h : PSt w wr B vl vt line th lm tm) {d : Nat} {p : Nat × Nat} (hp : line[d]? = some p) (ht : th[d]? = some true) (g c : Nat) (h0 : wr.cell? ⟨g, 0, none⟩ = some (.int .i64 3)) (h1 : wr.cell? ⟨g, 1, none⟩ = some (.int .i64 0)) :
    Calls Try.prog 13 #[.pointer (some ⟨B, 0, none⟩), .int .i64 (p.1 : Int), .int .i64 (p.2 : Int), .slice (some ⟨g, 0, none⟩) 2 c] wr fun x w' => x = .returned (.tuple #[.agg #[.int .i64 (lastOf line th d).1, .int .i64 (lastOf line th d).2], .int .i64 0]) ∧ PSt w w' B vl vt line th lm tm ∧ Below wr.heap.size wr w' := by
  have hK := h
  obtain ⟨F, bk, h⟩ := h
  have hat := h.inv.yes d p hp ht
  obtain ⟨f, hf⟩ := line_rk h.inv
  let Z : Nat → Int := fun k => if k = 0 then 3 else 0
  refine (upSome_any wr F B bk h.book f hf _ _ _ hat (some ⟨g, 0, none⟩) 2 c Z (by unfold maxLen; omega) ?_).mono ?_
  · intro k hk
    refine ⟨_, rfl, ?_⟩
    rw [add0]
    rcases Nat.lt_or_ge k 1 with h2 | h2
    · obtain rfl : k = 0 := by omega
      exact h0
    · obtain rfl : k = 1 := by omega
      exact h1
  · rintro x w' ⟨q1, q2, rfl, hu, hb⟩
    have hin : ∀ a : Nat, insF Z 2 (a : Int) = decide (a = 0 ∨ a = 3) := by
      intro a
      unfold insF
      rcases Nat.lt_or_ge a 16 with ha | ha
      · rw [show ((a : Int).toNat) = a from rfl, insB_get Z 2 a ha]
        have : ∀ m : Fin 16, ((List.range 2).any (fun j => decide ((if j = 0 then (3 : Int) else 0) = ((m.val : Nat) : Int)))) = decide (m.val = 0 ∨ m.val = 3) := by decide
        exact this ⟨a, ha⟩
      · rw [show ((a : Int).toNat) = a from rfl, List.getElem?_eq_none (by rw [insB_len]; exact ha)]
        have e1 : ¬ (a = 0 ∨ a = 3) := by omega
        simp [e1]
    have hl := h.inv.ups hin d d (Nat.le_refl _) (by have := (List.getElem?_eq_some_iff.1 hp).1; omega) q1 q2 hu
    rw [← hl]
    exact ⟨rfl, hK.below hb, hb⟩
end
end Go.Proofs.Ytimfgjndgfjjgaa
