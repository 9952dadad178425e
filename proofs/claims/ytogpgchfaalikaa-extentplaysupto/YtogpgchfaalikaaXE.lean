import Derived.Test.YtogpgchfaalikaaX8
namespace Go.Proofs.Ytogpgchfaalikaa
open Go.RowKit

def TbA (T B : Nat) (C : Nat → Cl) : Asn := fun W H => Tb W T (dvB B) C ∧ ∀ b, H b ↔ b = T
theorem good_tb (T B : Nat) (C : Nat → Cl) : Good (TbA T B C) := by
  refine ⟨?_, ?_⟩
  · rintro W H ⟨h, he⟩ b hb; rw [(he b).1 hb]; exact h.lt
  · rintro W W' H ⟨h, he⟩ _ hk; exact ⟨h.keep (hk T ((he T).2 rfl)), he⟩
def OwA (v : Value) (zs : List Nat) : Asn := fun W H => Ow W 0 v zs ∧ ∀ b, H b ↔ v.ownBlock = some b
theorem good_ow (v : Value) (zs : List Nat) : Good (OwA v zs) := by
  refine ⟨?_, ?_⟩
  · rintro W H ⟨h, he⟩ b hb; exact ownsRow_lt h ((he b).1 hb)
  · rintro W W' H ⟨h, he⟩ _ hk; exact ⟨ownsRow_keep h (fun b hb => hk b ((he b).2 hb)), he⟩
/-- a list of claims that was told -/
def OsA (v : Value) (n : Nat) (xs : List Value) : Asn := fun W H => W.ownsRow 0 39 3 v n xs ∧ ∀ b, H b ↔ v.ownBlock = some b
theorem good_os (v : Value) (n : Nat) (xs : List Value) : Good (OsA v n xs) := by
  refine ⟨?_, ?_⟩
  · rintro W H ⟨h, he⟩ b hb; exact ownsRow_lt h ((he b).1 hb)
  · rintro W W' H ⟨h, he⟩ _ hk; exact ⟨ownsRow_keep h (fun b hb => hk b ((he b).2 hb)), he⟩
theorem own_zero {w : World} {base e size n : Nat} {v : Value} {xs : List Value} (h : w.ownsRow base e size v n xs) : w.ownsRow 0 e size v n xs := by
  obtain ⟨q1, ⟨q2, q3⟩ | ⟨g, cp, cur, q2, q3, q4⟩⟩ := h
  · exact ⟨q1, .inl ⟨q2, q3⟩⟩
  · exact ⟨q1, .inr ⟨g, cp, cur, q2, Nat.zero_le _, q4⟩⟩
section
variable {w wr w' : World} {A X Y R : Asn}
theorem Sys.first (h : Sys w wr (star X R)) : ∃ F, X wr F ∧ ∀ b, F b → w.heap.size ≤ b := by
  obtain ⟨H, ⟨H1, H2, h1, h2, h3, h4⟩, hl, hb⟩ := h
  exact ⟨H1, h1, fun b hb1 => hl b ((h3 b).2 (.inl hb1))⟩
theorem Sys.swap (h : Sys w wr (star X (star Y R))) : Sys w wr (star Y (star X R)) := h.mono (fun _ _ => star_swap)
theorem Sys.third {Z : Asn} (h : Sys w wr (star X (star Y (star Z R)))) : Sys w wr (star Z (star X (star Y R))) :=
  (h.mono (fun _ _ hh => star_mono (fun _ _ => star_swap) hh)).swap
theorem Sys.fourth {Z U : Asn} (h : Sys w wr (star X (star Y (star Z (star U R))))) : Sys w wr (star U (star X (star Y (star Z R)))) :=
  (h.mono (fun _ _ hh => star_mono (fun _ _ h2 => star_swap (star_mono (fun _ _ => star_swap) h2)) hh)).swap
/-- the first part's call, with the second apart from it -/
theorem Sys.call2 (h : Sys w wr (star X (star Y R))) (hY : Good Y) (hR : Good R) :
    ∃ F G : Nat → Prop, X wr F ∧ Y wr G ∧ (∀ b, F b → ¬ G b) ∧ (∀ b, F b → w.heap.size ≤ b) ∧ ∀ (w' : World) (F' : Nat → Prop) (X' : Asn), X' w' F' → Ext F wr F' w' → Sys w w' (star X' (star Y R)) := by
  have h0 := h
  obtain ⟨H, ⟨H1, H23, h1, ⟨H2, H3, h2, h3, e23, d23⟩, e, d⟩, hl, hb⟩ := h
  refine ⟨H1, H2, h1, h2, fun b hb1 hb2 => d b hb1 ((e23 b).2 (.inl hb2)), fun b hb1 => hl b ((e b).2 (.inl hb1)), fun w' F' X' hX hE => ?_⟩
  have hS : Sys w wr (star (fun W F => W = wr ∧ F = H1) (star Y R)) := ⟨H, ⟨H1, H23, ⟨rfl, rfl⟩, ⟨H2, H3, h2, h3, e23, d23⟩, e, d⟩, hl, hb⟩
  obtain ⟨F, hF, _, hk⟩ := hS.call (hY.star hR)
  obtain ⟨_, rfl⟩ := hF
  exact hk w' F' X' hX hE
/-- an own row that was made -/
theorem Sys.newOw (h : Sys w wr R) (hR : Good R) {v : Value} {zs : List Nat} (hv : Ow w' wr.heap.size v zs) (hb : Below wr.heap.size wr w') : Sys w w' (star (OwA v zs) R) :=
  h.new hR (Fc := fun b => v.ownBlock = some b) ⟨own_zero hv, fun _ => Iff.rfl⟩ (fun b hb' => (World.ownsRow.lt hv b hb').1) hb
theorem Sys.newOs (h : Sys w wr R) (hR : Good R) {v : Value} {n : Nat} {xs : List Value} (hv : w'.ownsRow wr.heap.size 39 3 v n xs) (hb : Below wr.heap.size wr w') : Sys w w' (star (OsA v n xs) R) :=
  h.new hR (Fc := fun b => v.ownBlock = some b) ⟨own_zero hv, fun _ => Iff.rfl⟩ (fun b hb' => (World.ownsRow.lt hv b hb').1) hb
end
/-- a byte of an own row is set -/
theorem Ow.setAt {w : World} {g cap n i c : Nat} {zs : List Nat} (h : Ow w 0 (.slice (some ⟨g, 0, none⟩) n cap) zs) : Ow (w.setCell ⟨g, i, none⟩ (By c)) 0 (.slice (some ⟨g, 0, none⟩) n cap) (zs.set i c) := by
  obtain ⟨hl, ⟨h0, _⟩ | ⟨g', cap', cur, hv', hb', hg', hn', hm', hs', ht'⟩⟩ := h
  · cases h0
  · cases hv'
    refine ⟨by simp, .inr ⟨g, cap, cur.setIfInBounds i (By c), by simp, hb', heap_setCell_same _ _ _ _ _ _ hg', by simpa using hn', hm', by simpa using hs', ?_⟩⟩
    rw [List.length_set, Array.toList_setIfInBounds, List.take_set, ht', List.map_set]
theorem Ow.frz {w : World} {g cap n : Nat} {zs : List Nat} (h : Ow w 0 (.slice (some ⟨g, 0, none⟩) n cap) zs) (i : Nat) : w.frozen? ⟨g, i, none⟩ = false := by
  obtain ⟨hl, ⟨h0, _⟩ | ⟨g', cap', cur, hv', hb', hg', _⟩⟩ := h
  · cases h0
  · cases hv'; exact frozen_of_row _ _ _ _ _ hg'
/-- in a system: a byte of the first row is set -/
theorem Sys.setB {w wr : World} {R : Asn} {g cap n i c : Nat} {zs : List Nat} (h : Sys w wr (star (OwA (.slice (some ⟨g, 0, none⟩) n cap) zs) R)) (hR : Good R) : Sys w (wr.setCell ⟨g, i, none⟩ (By c)) (star (OwA (.slice (some ⟨g, 0, none⟩) n cap) (zs.set i c)) R) := by
  obtain ⟨F, hX, hl, hk⟩ := h.call hR
  refine hk _ F _ ⟨hX.1.setAt, hX.2⟩ ⟨(Mod.refl _ _).setCell (.inl ((hX.2 g).2 rfl)) _, fun _ h => .inl h⟩
section
variable {w wr w2 : World} {X Y Z R : Asn}
theorem Sys.back2 (h : Sys w wr (star X (star Y (star Z R)))) : Sys w wr (star Y (star Z (star X R))) :=
  h.swap.mono (fun _ _ => star_mono (fun _ _ => star_swap))
theorem Sys.drop (h : Sys w wr (star X R)) : Sys w wr R := by
  obtain ⟨H, ⟨H1, H2, h1, h2, h3, h4⟩, hl, hb⟩ := h
  exact ⟨H2, h2, fun b hb2 => hl b ((h3 b).2 (.inr hb2)), hb⟩
theorem grown_ext {v v2 : Value} (hg : wr.grownBy w2 v.ownBlock) (hloc : v2.ownBlock = v.ownBlock ∨ v2.ownBlock = some wr.heap.size) {F : Nat → Prop} (hF : ∀ b, F b ↔ v.ownBlock = some b) : Ext F wr (fun b => v2.ownBlock = some b) w2 :=
  ⟨⟨hg.os, hg.tape, hg.output, hg.size, fun b hb hf => hg.block b hb (fun e => hf ((hF b).2 e.symm))⟩, fun b hb => by
    rcases hloc with e | e
    · exact .inl ((hF b).2 (by rw [← e]; exact hb))
    · rw [e] at hb; cases hb; exact .inr (Nat.le_refl _)⟩
/-- a row of bytes is appended to -/
theorem Sys.app {v v2 : Value} {zs zs2 : List Nat} (h : Sys w wr (star (OwA v zs) R)) (hR : Good R) (ho : Ow w2 0 v2 zs2) (hg : wr.grownBy w2 v.ownBlock) (hloc : v2.ownBlock = v.ownBlock ∨ v2.ownBlock = some wr.heap.size) : Sys w w2 (star (OwA v2 zs2) R) := by
  obtain ⟨F, hX, hl, hk⟩ := h.call hR
  exact hk w2 _ _ ⟨ho, fun _ => Iff.rfl⟩ (grown_ext hg hloc hX.2)
theorem Sys.appS {v v2 : Value} {n n2 : Nat} {xs xs2 : List Value} (h : Sys w wr (star (OsA v n xs) R)) (hR : Good R) (ho : w2.ownsRow 0 39 3 v2 n2 xs2) (hg : wr.grownBy w2 v.ownBlock) (hloc : v2.ownBlock = v.ownBlock ∨ v2.ownBlock = some wr.heap.size) : Sys w w2 (star (OsA v2 n2 xs2) R) := by
  obtain ⟨F, hX, hl, hk⟩ := h.call hR
  exact hk w2 _ _ ⟨ho, fun _ => Iff.rfl⟩ (grown_ext hg hloc hX.2)
theorem Sys.setS {g cap n i : Nat} {xs : List Value} (h : Sys w wr (star (OsA (.slice (some ⟨g, 0, none⟩) n cap) n xs) R)) (hR : Good R) (u : Value) : Sys w (wr.setCell ⟨g, i, none⟩ u) (star (OsA (.slice (some ⟨g, 0, none⟩) n cap) n (xs.set i u)) R) := by
  obtain ⟨F, hX, hl, hk⟩ := h.call hR
  refine hk _ F _ ⟨?_, hX.2⟩ ⟨(Mod.refl _ _).setCell (.inl ((hX.2 g).2 rfl)) _, fun _ h => .inl h⟩
  obtain ⟨hl, ⟨h0, _⟩ | ⟨g', cap', cur, hv', hb', hg', hn', hm', hs', ht'⟩⟩ := hX.1
  · cases h0
  · cases hv'
    refine ⟨by simpa using hl, .inr ⟨g, cap, cur.setIfInBounds i u, rfl, hb', heap_setCell_same _ _ _ _ _ _ hg', hn', hm', by simpa using hs', ?_⟩⟩
    rw [Array.toList_setIfInBounds, List.take_set, ht']
end
theorem os_frz {w : World} {g cap n : Nat} {xs : List Value} (h : w.ownsRow 0 39 3 (.slice (some ⟨g, 0, none⟩) n cap) n xs) (i : Nat) : w.frozen? ⟨g, i, none⟩ = false := by
  obtain ⟨hl, ⟨h0, _⟩ | ⟨g', cap', cur, hv', hb', hg', _⟩⟩ := h
  · cases h0
  · cases hv'; exact frozen_of_row _ _ _ _ _ hg'
theorem os_some {w : World} {base n : Nat} {v : Value} {xs : List Value} (h : w.ownsRow base 39 3 v n xs) (hn : 0 < n) : ∃ g cap, v = .slice (some ⟨g, 0, none⟩) n cap ∧ n ≤ cap := by
  obtain ⟨hl, ⟨_, h0⟩ | ⟨g, cap, cur, hv, hb, hg, hn', _⟩⟩ := h
  · omega
  · exact ⟨g, cap, hv, hn'⟩
theorem cell_two_new (w : World) (t : TypeId) (a b : Value) : ∀ j v, [a, b][j]? = some v → (w.alloc (.cells #[a, b] t)).cell? ((⟨w.heap.size, 0, none⟩ : Addr).add j) = some v := by
  intro j v hj
  rw [add0, cell_of_row _ _ _ _ _ _ (heap_alloc_new w _)]
  simpa using hj
theorem cld_one : ∀ n, n < 32 → cld (put (fun _ => Cl.zero) n ⟨5, 1⟩) 32 = [n] := by decide +kernel
/-- a row of bytes, whatever they are -/
def AnA (v : Value) (n : Nat) : Asn := fun W H => ∃ xs : List Value, W.ownsRow 0 5 1 v n xs ∧ ∀ b, H b ↔ v.ownBlock = some b
theorem good_an (v : Value) (n : Nat) : Good (AnA v n) := by
  refine ⟨?_, ?_⟩
  · rintro W H ⟨xs, h, he⟩ b hb; exact ownsRow_lt h ((he b).1 hb)
  · rintro W W' H ⟨xs, h, he⟩ _ hk; exact ⟨xs, ownsRow_keep h (fun b hb => hk b ((he b).2 hb)), he⟩
theorem Sys.setN {w wr : World} {R : Asn} {g cap n : Nat} (h : Sys w wr (star (AnA (.slice (some ⟨g, 0, none⟩) n cap) n) R)) (hR : Good R) (i : Nat) (u : Value) : Sys w (wr.setCell ⟨g, i, none⟩ u) (star (AnA (.slice (some ⟨g, 0, none⟩) n cap) n) R) := by
  obtain ⟨F, ⟨xs, hX, hF⟩, hl, hk⟩ := h.call hR
  refine hk _ F _ ⟨xs.set i u, ?_, hF⟩ ⟨(Mod.refl _ _).setCell (.inl ((hF g).2 rfl)) _, fun _ h => .inl h⟩
  obtain ⟨hl, ⟨h0, _⟩ | ⟨g', cap', cur, hv', hb', hg', hn', hm', hs', ht'⟩⟩ := hX
  · cases h0
  · cases hv'
    refine ⟨by simpa using hl, .inr ⟨g, cap, cur.setIfInBounds i u, rfl, hb', heap_setCell_same _ _ _ _ _ _ hg', hn', hm', by simpa using hs', ?_⟩⟩
    rw [Array.toList_setIfInBounds, List.take_set, ht']
theorem Sys.cellN {w wr : World} {R : Asn} {g cap n : Nat} (h : Sys w wr (star (AnA (.slice (some ⟨g, 0, none⟩) n cap) n) R)) {i : Nat} (hi : i < n) : (∃ u, wr.cell? ⟨g, i, none⟩ = some u) ∧ wr.frozen? ⟨g, i, none⟩ = false := by
  obtain ⟨F, ⟨xs, hX, hF⟩, _⟩ := h.first
  have hX' := hX
  obtain ⟨hl, ⟨h0, _⟩ | ⟨g', cap', cur, hv', hb', hg', hn', hm', hs', ht'⟩⟩ := hX
  · cases h0
  · cases hv'
    refine ⟨?_, frozen_of_row _ _ _ _ _ hg'⟩
    have hil : i < xs.length := by omega
    have := World.ownsRow.cells hX' rfl i xs[i] (List.getElem?_eq_getElem hil)
    rw [add0] at this
    exact ⟨_, this⟩
/-- the first k of n bytes are c, the others b -/
def mx (c b k n : Nat) : List Nat := List.replicate k c ++ List.replicate (n - k) b
theorem mx_0 (c b n : Nat) : mx c b 0 n = List.replicate n b := by simp [mx]
theorem mx_all (c b n : Nat) : mx c b n n = List.replicate n c := by simp [mx]
theorem mx_len {c b k n : Nat} (h : k ≤ n) : (mx c b k n).length = n := by simp [mx]; omega
theorem mx_set {c b k n : Nat} (h : k < n) : (mx c b k n).set k c = mx c b (k + 1) n := by
  unfold mx
  rw [List.set_append_right _ _ (by simp), List.length_replicate, Nat.sub_self, show n - k = (n - (k + 1)) + 1 by omega, List.replicate_succ, List.set_cons_zero, List.replicate_succ' (n := k)]
  simp
end Go.Proofs.Ytogpgchfaalikaa
