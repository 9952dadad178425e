import Derived.Test.YtnpklhjndominaaY0
namespace Go.Proofs.Ytnpklhjndominaa
open Go.RowKit

theorem Sys.base {w w0 wr : World} {A : Asn} (h : Sys w0 wr A) (hb : Below w.heap.size w w0) : Sys w wr A := by
  obtain ⟨H, h1, h2, h3⟩ := h
  exact ⟨H, h1, fun b hb' => Nat.le_trans hb.size (h2 b hb'), hb.trans (h3.mono hb.size)⟩
/-- an own row of bytes -/
def OwA (v : Value) (zs : List Nat) : Asn := fun W H => Ow W 0 v zs ∧ ∀ b, H b ↔ v.ownBlock = some b
theorem good_ow (v : Value) (zs : List Nat) : Good (OwA v zs) := by
  refine ⟨?_, ?_⟩
  · rintro W H ⟨h, he⟩ b hb
    exact ownsRow_lt h ((he b).1 hb)
  · rintro W W' H ⟨h, he⟩ _ hk
    exact ⟨ownsRow_keep h (fun b hb => hk b ((he b).2 hb)), he⟩
theorem Sys.row {w wr w' : World} {R : Asn} (h : Sys w wr R) (hR : Good R) {v : Value} {zs : List Nat} (ho : Ow w' wr.heap.size v zs) (hb : Below wr.heap.size wr w') : Sys w w' (star (OwA v zs) R) :=
  h.new hR (Fc := fun b => v.ownBlock = some b) ⟨ho.mono (Nat.zero_le _), fun _ => Iff.rfl⟩ (fun b hb' => (World.ownsRow.lt ho b hb').1) hb
theorem Ow.set {w : World} {base g cap l j z : Nat} {zs : List Nat} (h : Ow w base (.slice (some ⟨g, 0, none⟩) l cap) zs) :
    Ow (w.setCell ⟨g, j, none⟩ (By z)) base (.slice (some ⟨g, 0, none⟩) l cap) (zs.set j z) := by
  obtain ⟨hl, ⟨h0, _⟩ | ⟨g', cap', cur, hv, hb, hg, hn, hm, hs, ht⟩⟩ := h
  · cases h0
  · cases hv
    refine ⟨by simp, .inr ⟨g, cap, cur.setIfInBounds j (By z), by simp, hb, heap_setCell_same w g j cur 5 (By z) hg, by simpa using hn, hm, by simpa using hs, ?_⟩⟩
    rw [List.map_set, ← ht, Array.toList_setIfInBounds]
    rw [List.length_set, List.take_set]
theorem Ow.frz {w : World} {base g cap l : Nat} {zs : List Nat} (h : Ow w base (.slice (some ⟨g, 0, none⟩) l cap) zs) (j : Nat) : w.frozen? ⟨g, j, none⟩ = false := by
  obtain ⟨hl, ⟨h0, _⟩ | ⟨g', cap', cur, hv, hb, hg, _⟩⟩ := h
  · cases h0
  · cases hv
    exact frozen_of_row w g j cur 5 hg
theorem Sys.setByte {w wr : World} {R : Asn} {g cap l j z : Nat} {zs : List Nat} (h : Sys w wr (star (OwA (.slice (some ⟨g, 0, none⟩) l cap) zs) R)) (hR : Good R) :
    Sys w (wr.setCell ⟨g, j, none⟩ (By z)) (star (OwA (.slice (some ⟨g, 0, none⟩) l cap) (zs.set j z)) R) := by
  obtain ⟨F, hX, _, hn⟩ := h.call hR
  refine hn _ F _ ⟨hX.1.set, hX.2⟩ ⟨(Mod.refl _ _).setCell (.inl ((hX.2 g).2 rfl)) _, fun _ h => .inl h⟩
theorem splice_set (L X : List Nat) (t k x : Nat) (hl : t + X.length ≤ L.length) (hk : X[k]? = some x) : (splice L t (X.take k)).set (t + k) x = splice L t (X.take (k + 1)) := by
  obtain ⟨hkl, hx⟩ := List.getElem?_eq_some_iff.1 hk
  apply List.ext_getElem?
  intro j
  have h1 : (X.take k).length = k := by simp; omega
  have h2 : (X.take (k + 1)).length = k + 1 := by simp; omega
  rw [List.getElem?_set]
  unfold splice
  rw [splice_get L (X.take (k + 1)) t j (by rw [h2]; omega), splice_get L (X.take k) t j (by rw [h1]; omega), h1, h2]
  have hll : (List.take t L ++ (X.take k ++ List.drop (t + k) L)).length = L.length := by
    have := length_splice L t (X.take k) (by rw [h1]; omega)
    unfold splice at this
    rw [h1] at this; exact this
  split
  · rename_i e
    subst e
    rw [if_pos (by rw [hll]; omega), if_pos (by omega), List.getElem?_take_of_lt (by omega), ← hk]
    congr 1; omega
  · rename_i e
    by_cases hj : t ≤ j ∧ j < t + k
    · rw [if_pos hj, if_pos (by omega), List.getElem?_take_of_lt (by omega), List.getElem?_take_of_lt (by omega)]
    · rw [if_neg hj, if_neg (by omega)]
end Go.Proofs.Ytnpklhjndominaa
