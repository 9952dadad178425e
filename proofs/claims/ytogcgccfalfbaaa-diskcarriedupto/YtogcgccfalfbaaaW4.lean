import Derived.Test.YtogcgccfalfbaaaW3
import Derived.Deep.RegionHeld
namespace Go.Proofs.Ytogcgccfalfbaaa
open Go.RowKit

theorem Sys.appPuts {w wr w' : World} {R : Asn} {v v' : Value} {L K : List (Int × Nat)} {n m : Nat} (h : Sys w wr (star (PutsA v L) R)) (hR : Good R) (hn : L.length = n) (hm : K.length = m)
    (ho : w'.ownsRow 0 30 2 v' (n + m) (L.flatMap pr2 ++ K.flatMap pr2)) (hg : wr.grownBy w' v.ownBlock) (hl : v'.ownBlock = v.ownBlock ∨ v'.ownBlock = some wr.heap.size) : Sys w w' (star (PutsA v' (L ++ K)) R) := by
  obtain ⟨F, hX, hlo, hnx⟩ := h.call hR
  refine hnx w' (fun b => v'.ownBlock = some b) _ ⟨?_, fun _ => Iff.rfl⟩ ⟨?_, ?_⟩
  · rw [List.length_append, hn, hm, List.flatMap_append]; exact ho
  · refine ⟨hg.os, hg.tape, hg.output, hg.size, fun k hk hf => hg.block k hk (fun e => hf ((hX.2 k).2 e.symm))⟩
  · intro b hb'
    rcases hl with e | e
    · exact .inl ((hX.2 b).2 (by rw [← e, hb']))
    · rw [hb'] at e; simp at e; right; omega
theorem Sys.appBig {w wr w' : World} {R : Asn} {v v' : Value} {L K : List Value} {n m : Nat} {o : Obj} (h : Sys w wr (star (BigA v L) R)) (hR : Good R) (hn : L.length = n) (hm : K.length = m)
    (ho : w'.ownsRow 0 5 1 v' (n + m) (L ++ K)) (hg : (wr.alloc o).grownBy w' v.ownBlock) (hl : v'.ownBlock = v.ownBlock ∨ v'.ownBlock = some (wr.heap.size + 1)) : Sys w w' (star (BigA v' (L ++ K)) R) := by
  obtain ⟨F, hX, hlo, hnx⟩ := h.call hR
  refine hnx w' (fun b => v'.ownBlock = some b) _ ⟨?_, fun _ => Iff.rfl⟩ ⟨?_, ?_⟩
  · rw [List.length_append, hn, hm]; exact ho
  · have hb : Below wr.heap.size wr (wr.alloc o) := (Below.refl _ _).alloc (Nat.le_refl _) o
    refine ⟨hg.os.trans hb.os, hg.tape.trans hb.tape, hg.output.trans hb.output, Nat.le_trans hb.size hg.size, fun k hk hf => ?_⟩
    rw [hg.block k (Nat.lt_of_lt_of_le hk hb.size) (fun e => hf ((hX.2 k).2 e.symm)), hb.block k hk]
  · intro b hb'
    rcases hl with e | e
    · exact .inl ((hX.2 b).2 (by rw [← e, hb']))
    · rw [hb'] at e; simp at e; right; omega
theorem own_low {w : World} {base e size n : Nat} {v : Value} {xs : List Value} (h : w.ownsRow base e size v n xs) : w.ownsRow 0 e size v n xs := by
  refine ⟨h.1, ?_⟩
  rcases h.2 with h2 | ⟨g, cap, cur, h1, _, h3⟩
  · exact .inl h2
  · exact .inr ⟨g, cap, cur, h1, Nat.zero_le _, h3⟩
theorem own_some {w : World} {base e size n : Nat} {v : Value} {xs : List Value} (h : w.ownsRow base e size v n xs) (hn : n ≠ 0) : ∃ g cap, v = .slice (some ⟨g, 0, none⟩) n cap ∧ n ≤ cap ∧ g < w.heap.size := by
  rcases h.2 with ⟨_, h2⟩ | ⟨g, cap, cur, h1, _, h3, h4, _⟩
  · exact (hn h2).elim
  · exact ⟨g, cap, h1, h4, (Array.getElem?_eq_some_iff.1 h3).1⟩
theorem MRow.cells {M : Nat → List Nat} {cur : List Value} (h : MRow M 1024 cur) {g cap : Nat} {T : List Value} {w : World} (hr : w.ownsRow 0 5 1 (.slice (some ⟨g, 0, none⟩) (cur ++ T).length cap) (cur ++ T).length (cur ++ T)) (hM : ∀ s, s < 1024 → Sec (M s)) : ∀ s, s < 1024 → w.rangeAt g (s * 128) ((M s).map By) := by
  intro s hs j v hv
  have hj : j < 128 := by have := (List.getElem?_eq_some_iff.1 hv).1; rw [List.length_map, (hM s hs).1] at this; exact this
  have h1 := h.at' s hs j v hv
  have hl := h.len
  rw [hr.cellAt (s * 128 + j) (by rw [List.length_append]; omega), List.getElem?_append_left (by omega)]
  exact h1
theorem rot3 {A B C : Asn} {W : World} {H : Nat → Prop} (h : star A (star B C) W H) : star C (star A B) W H := star_last (star_last h)
theorem rot4 {A B C D : Asn} {W : World} {H : Nat → Prop} (h : star A (star B (star C D)) W H) : star B (star A (star C D)) W H := star_swap h
theorem star_fst {A B C : Asn} (h : ∀ W H, A W H → B W H) {W : World} {H : Nat → Prop} (hh : star A C W H) : star B C W H := star_comm (star_mono h (star_comm hh))
theorem play_one (M : Nat → List Nat) (s : Nat) (z : List Nat) : play M [(s, z)] = upd M s z := rfl
/-- the other disk's medium, at last -/
def lastM (M : Nat → List Nat) : Nat → List Nat := upd (upd M 5 (List.replicate 128 225)) 6 (splice (upd M 5 (List.replicate 128 225) 6) 0 [226])
theorem lastM_far (M : Nat → List Nat) {s : Nat} (h5 : s ≠ 5) (h6 : s ≠ 6) : lastM M s = M s := by unfold lastM upd; rw [if_neg h6, if_neg h5]
theorem lastM_five (M : Nat → List Nat) : lastM M 5 = List.replicate 128 225 := by unfold lastM upd; rw [if_neg (by omega), if_pos rfl]
section
variable {P : Program} {ops : Array Oper} {Q : Exit → Act → World → Prop} {S : World → Prop} {fuel : Nat} {listed : Array Bool} {a : Act} {w : World}
/-- the one operation that may come up -/
theorem hd_call (i : Nat) {o : Oper} (hr : Region.ready .any ops listed = [i]) (ho : ops[i]? = some o) (hw : Region.wanted o (yielded ops a.tmps) = true)
    (h : ∀ K : Act → World → Prop, (∀ a w, S w → wpAnyH P .any ops Q S fuel (listed.setIfInBounds i true) a w → K a w) → Oper.wp P o a w K Q) : wpAnyH P .any ops Q S (fuel + 1) listed a w := by
  refine wpAnyH_ready hr (by simp) (AllReadyH.cons ho (fun K hK => ?_) AllReadyH.nil)
  rw [if_pos hw]
  exact h K (fun a w hS hh => hK.out a w hS (fun _ => hh))
/-- what yields in whatever world that meets S -/
theorem hd_take (i : Nat) {o : Oper} (v : Value) (hs : Region.noSelect ops = true) (hf : Region.free .any ops listed i = true) (hr : (Region.ready .any ops listed).contains i = true) (ho : ops[i]? = some o) (hw : Region.wanted o (yielded ops a.tmps) = true)
    (hy : ∀ w, S w → (execOp a.eval o).run P w = .ok (.value v) w)
    (hQ : ∀ c a w, Q (.panic c) (a.put o.dst v) w → Q (.panic c) a w) (h0 : S w) (h : wpAnyH P .any ops Q S fuel (listed.setIfInBounds i true) (a.put o.dst v) w) : wpAnyH P .any ops Q S (fuel + 1) listed a w :=
  wpAnyH_take ho hs hf hr hQ (Or.inl ⟨hw, hy⟩) h0 h
/-- what its guard leaves out -/
theorem hd_skip (i : Nat) {o : Oper} (hs : Region.noSelect ops = true) (hf : Region.free .any ops listed i = true) (hr : (Region.ready .any ops listed).contains i = true) (ho : ops[i]? = some o) (hw : Region.wanted o (yielded ops a.tmps) = false)
    (hQ : ∀ c a w, Q (.panic c) (a.put o.dst undef) w → Q (.panic c) a w) (h0 : S w) (h : wpAnyH P .any ops Q S fuel (listed.setIfInBounds i true) (a.put o.dst undef) w) : wpAnyH P .any ops Q S (fuel + 1) listed a w :=
  wpAnyH_take ho hs hf hr hQ (Or.inr ⟨hw, rfl⟩) h0 h
end
end Go.Proofs.Ytogcgccfalfbaaa
