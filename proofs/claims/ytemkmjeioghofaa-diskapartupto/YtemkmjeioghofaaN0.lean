import Derived.Test.YtemkmjeioghofaaU0
namespace Go.Proofs.Ytemkmjeioghofaa
open Go.RowKit

def ent (g cap : Nat → Nat) (i : Nat) : Option (List Nat) → Value
  | some zs => .slice (some ⟨g i, 0, none⟩) zs.length (cap i)
  | none => .slice none 0 0
def cells4 (L : List (List Nat)) (g cap : Nat → Nat) : List Value := (List.range 4).map (fun i => ent g cap i L[i]?)
theorem cells4_get (L : List (List Nat)) (g cap : Nat → Nat) (i : Nat) (hi : i < 4) : (cells4 L g cap)[i]? = some (ent g cap i L[i]?) := by simp [cells4, hi]
/-- four lists of the law's own, the first ones laid -/
structure TabAt (G : Nat) (L : List (List Nat)) (g cap : Nat → Nat) (W : World) (H : Nat → Prop) : Prop where
  len : L.length ≤ 4
  blk : W.heap[G]? = some (.cells (cells4 L g cap).toArray 29 (0, 0))
  row : ∀ (i : Nat) (zs : List Nat), L[i]? = some zs → Ow W 0 (.slice (some ⟨g i, 0, none⟩) zs.length (cap i)) zs ∧ H (g i)
  inj : ∀ (i j : Nat), i < L.length → j < L.length → g i = g j → i = j
  hG : H G
  lt : ∀ b, H b → b < W.heap.size
def TabA (G : Nat) (L : List (List Nat)) : Asn := fun W H => ∃ g cap, TabAt G L g cap W H
theorem TabAt.keep {G : Nat} {L : List (List Nat)} {g cap : Nat → Nat} {W W' : World} {H : Nat → Prop} (h : TabAt G L g cap W H) (hs : W.heap.size ≤ W'.heap.size) (hk : ∀ b, H b → W'.heap[b]? = W.heap[b]?) : TabAt G L g cap W' H :=
  ⟨h.len, by rw [hk G h.hG]; exact h.blk, fun i zs hz => ⟨ownsRow_keep (h.row i zs hz).1 (fun b hb => by simp [Value.ownBlock] at hb; subst hb; exact hk _ (h.row i zs hz).2), (h.row i zs hz).2⟩, h.inj, h.hG, fun b hb => Nat.lt_of_lt_of_le (h.lt b hb) hs⟩
theorem good_tab (G : Nat) (L : List (List Nat)) : Good (TabA G L) :=
  ⟨fun ⟨_, _, h⟩ => h.lt, fun ⟨g, cap, h⟩ hs hk => ⟨g, cap, h.keep hs hk⟩⟩
theorem own_blk {W : World} {base g l cap : Nat} {zs : List Nat} (h : Ow W base (.slice (some ⟨g, 0, none⟩) l cap) zs) : ∃ cur, W.heap[g]? = some (.cells cur 5 (0, 0)) := by
  obtain ⟨_, ⟨h0, _⟩ | ⟨g', cap', cur, hv, _, hg, _⟩⟩ := h
  · cases h0
  · cases hv; exact ⟨cur, hg⟩
section
variable {G : Nat} {L : List (List Nat)} {g cap : Nat → Nat} {W : World} {H : Nat → Prop}
theorem TabAt.ne (h : TabAt G L g cap W H) {i : Nat} {zs : List Nat} (hz : L[i]? = some zs) : g i ≠ G := by
  intro e
  obtain ⟨cur, hc⟩ := own_blk (h.row i zs hz).1
  rw [e, h.blk] at hc
  simp at hc
theorem TabAt.cell (h : TabAt G L g cap W H) {i : Nat} (hi : i < 4) : W.cell? ⟨G, i, none⟩ = some (ent g cap i L[i]?) ∧ W.frozen? ⟨G, i, none⟩ = false :=
  ⟨by rw [cell_of_row _ _ _ _ _ _ h.blk]; simpa using cells4_get L g cap i hi, frozen_of_row W G i _ _ h.blk⟩
/-- a byte of a row -/
theorem TabAt.setByte (h : TabAt G L g cap W H) {i j z : Nat} {zs : List Nat} (hz : L[i]? = some zs) : TabAt G (L.set i (zs.set j z)) g cap (W.setCell ⟨g i, j, none⟩ (By z)) H := by
  have hil : i < L.length := (List.getElem?_eq_some_iff.1 hz).1
  have hlen : ∀ k, (ent g cap k (L.set i (zs.set j z))[k]?) = ent g cap k L[k]? := by
    intro k
    rw [List.getElem?_set]
    split
    · rename_i e
      subst e
      rw [hz]
      simp [ent]
    · rfl
  refine ⟨by simpa using h.len, ?_, ?_, by simpa using h.inj, h.hG, fun b hb => by simpa [World.setCell] using h.lt b hb⟩
  · rw [heap_setCell_other _ _ _ _ (fun e => h.ne hz e.symm), h.blk]
    unfold cells4
    simp only [hlen]
  · intro k ys hy
    rw [List.getElem?_set] at hy
    split at hy
    · rename_i e
      subst e
      cases hy
      refine ⟨?_, (h.row i zs hz).2⟩
      have := (h.row i zs hz).1.set (j := j) (z := z)
      rw [List.length_set]; exact this
    · rename_i e
      refine ⟨ownsRow_keep (h.row k ys hy).1 (fun b hb => ?_), (h.row k ys hy).2⟩
      simp [Value.ownBlock] at hb
      subst hb
      exact heap_setCell_other _ _ _ _ (fun e' => e (h.inj i k hil (List.getElem?_eq_some_iff.1 hy).1 e'.symm))
/-- one more row -/
theorem TabAt.put (h : TabAt G L g cap W H) {zs : List Nat} {gr cr : Nat} (hk : L.length < 4) (ho : Ow W 0 (.slice (some ⟨gr, 0, none⟩) zs.length cr) zs) (hn : ¬ H gr) :
    TabAt G (L ++ [zs]) (fun i => if i = L.length then gr else g i) (fun i => if i = L.length then cr else cap i) (W.setCell ⟨G, L.length, none⟩ (.slice (some ⟨gr, 0, none⟩) zs.length cr)) (fun b => H b ∨ b = gr) := by
  have hgG : gr ≠ G := fun e => hn (by rw [e]; exact h.hG)
  refine ⟨by simp; omega, ?_, ?_, ?_, .inl h.hG, ?_⟩
  · rw [heap_setCell_same _ _ _ _ _ _ h.blk]
    congr 2
    rw [List.setIfInBounds_toArray]
    congr 1
    apply List.ext_getElem?
    intro i
    by_cases hi : i < 4
    · rw [cells4_get _ _ _ _ hi, List.getElem?_set]
      split
      · rename_i e
        subst e
        rw [if_pos (by simp [cells4]; exact hi)]
        simp [ent]
      · rename_i e
        rw [cells4_get _ _ _ _ hi]
        congr 1
        by_cases hl : i < L.length
        · rw [List.getElem?_append_left hl, List.getElem?_eq_getElem hl]
          simp [ent, show ¬ i = L.length by omega]
        · rw [List.getElem?_eq_none (by omega), List.getElem?_eq_none (by simp; omega)]
          rfl
    · rw [List.getElem?_eq_none (by simp [cells4]; omega), List.getElem?_eq_none (by simp [cells4]; omega)]
  · intro i ys hy
    by_cases hi : i < L.length
    · rw [List.getElem?_append_left hi] at hy
      have hne : ¬ i = L.length := by omega
      simp only [hne, if_false]
      refine ⟨ownsRow_keep (h.row i ys hy).1 (fun b hb => ?_), .inl (h.row i ys hy).2⟩
      simp [Value.ownBlock] at hb
      subst hb
      exact heap_setCell_other _ _ _ _ (h.ne hy)
    · have hil : i < (L ++ [zs]).length := (List.getElem?_eq_some_iff.1 hy).1
      simp at hil
      obtain rfl : i = L.length := by omega
      simp at hy
      subst hy
      simp only [if_true]
      refine ⟨ownsRow_keep ho (fun b hb => ?_), .inr trivial⟩
      simp [Value.ownBlock] at hb
      subst hb
      exact heap_setCell_other _ _ _ _ hgG
  · intro i j hi hj e
    simp at hi hj
    have hgn : ∀ k, k < L.length → g k ≠ gr := fun k hk e' => hn (by rw [← e']; exact (h.row k _ (List.getElem?_eq_getElem hk)).2)
    by_cases hi2 : i = L.length
    · by_cases hj2 : j = L.length
      · omega
      · simp only [hi2, hj2, if_true, if_false] at e
        exact absurd e.symm (hgn j (by omega))
    · by_cases hj2 : j = L.length
      · simp only [hi2, hj2, if_true, if_false] at e
        exact absurd e (hgn i (by omega))
      · simp only [hi2, hj2, if_false] at e
        exact h.inj i j (by omega) (by omega) e
  · rintro b (hb | rfl)
    · simpa [World.setCell] using h.lt b hb
    · obtain ⟨cur, hc⟩ := own_blk ho
      simpa [World.setCell] using (Array.getElem?_eq_some_iff.1 hc).1
/-- a row, appended to -/
theorem TabAt.replace (h : TabAt G L g cap W H) {i g' c' : Nat} {zs zs' : List Nat} {w' : World} (hz : L[i]? = some zs) (hg : W.grownBy w' (some (g i))) (ho : Ow w' 0 (.slice (some ⟨g', 0, none⟩) zs'.length c') zs') (hl : g' = g i ∨ g' = W.heap.size) :
    TabAt G (L.set i zs') (fun k => if k = i then g' else g k) (fun k => if k = i then c' else cap k) (w'.setCell ⟨G, i, none⟩ (.slice (some ⟨g', 0, none⟩) zs'.length c')) (fun b => H b ∨ b = g') := by
  have hil : i < L.length := (List.getElem?_eq_some_iff.1 hz).1
  have hi4 : i < 4 := Nat.lt_of_lt_of_le hil h.len
  have hblk : w'.heap[G]? = some (.cells (cells4 L g cap).toArray 29 (0, 0)) := by rw [hg.block G (h.lt G h.hG) (fun e => h.ne hz (by simpa using e.symm))]; exact h.blk
  have hother : ∀ k ys, L[k]? = some ys → k ≠ i → w'.heap[g k]? = W.heap[g k]? ∧ g k ≠ g' := by
    intro k ys hy hne
    have hkl := (List.getElem?_eq_some_iff.1 hy).1
    have hgk := h.lt _ (h.row k ys hy).2
    have hgi : g k ≠ g i := fun e => hne (h.inj k i hkl hil e)
    refine ⟨hg.block _ hgk (fun e => hgi (by simpa using e)), fun e => ?_⟩
    rcases hl with e' | e'
    · exact hgi (by rw [e, e'])
    · omega
  have hg'G : g' ≠ G := by
    rcases hl with e | e
    · rw [e]; exact h.ne hz
    · have := h.lt G h.hG; omega
  refine ⟨by simpa using h.len, ?_, ?_, ?_, .inl h.hG, ?_⟩
  · rw [heap_setCell_same _ _ _ _ _ _ hblk]
    congr 2
    rw [List.setIfInBounds_toArray]
    congr 1
    apply List.ext_getElem?
    intro k
    by_cases hk : k < 4
    · rw [cells4_get _ _ _ _ hk, List.getElem?_set]
      split
      · rename_i e
        subst e
        rw [if_pos (by simp [cells4]; exact hk), List.getElem?_set_self hil]
        simp [ent]
      · rename_i e
        rw [cells4_get _ _ _ _ hk, List.getElem?_set_ne e]
        congr 1
        cases hq : L[k]? with
        | none => rfl
        | some ys => simp [ent, show ¬ k = i from fun e' => e e'.symm]
    · rw [List.getElem?_eq_none (by simp [cells4]; omega), List.getElem?_eq_none (by simp [cells4]; omega)]
  · intro k ys hy
    by_cases hk : k = i
    · subst hk
      rw [List.getElem?_set_self hil] at hy
      cases hy
      simp only [if_true]
      refine ⟨ownsRow_keep ho (fun b hb => ?_), .inr trivial⟩
      simp [Value.ownBlock] at hb
      subst hb
      exact heap_setCell_other _ _ _ _ hg'G
    · rw [List.getElem?_set_ne (fun e => hk e.symm)] at hy
      simp only [hk, if_false]
      obtain ⟨h1, _⟩ := hother k ys hy hk
      refine ⟨ownsRow_keep (h.row k ys hy).1 (fun b hb => ?_), .inl (h.row k ys hy).2⟩
      simp [Value.ownBlock] at hb
      subst hb
      rw [heap_setCell_other _ _ _ _ (h.ne hy)]; exact h1
  · intro a b ha hb e
    simp at ha hb
    by_cases hai : a = i
    · by_cases hbi : b = i
      · omega
      · simp only [hai, hbi, if_true, if_false] at e
        exact absurd e.symm (hother b _ (List.getElem?_eq_getElem hb) hbi).2
    · by_cases hbi : b = i
      · simp only [hai, hbi, if_true, if_false] at e
        exact absurd e (hother a _ (List.getElem?_eq_getElem ha) hai).2
      · simp only [hai, hbi, if_false] at e
        exact h.inj a b ha hb e
  · rintro b (hb | rfl)
    · have := h.lt b hb
      have := hg.size
      simp [World.setCell]; omega
    · obtain ⟨cur, hc⟩ := own_blk ho
      simpa [World.setCell] using (Array.getElem?_eq_some_iff.1 hc).1
end
end Go.Proofs.Ytemkmjeioghofaa
