import Derived.Test.YtmflohehnoghhaaGK
namespace Go.Proofs.Ytmflohehnoghhaa
open Go.RowKit

/-- the document's table: a list of mappings behind a pointer -/
structure RtAt (w : World) (R : Nat) (v : Value) (L : List Mp) : Prop where
  top : w.heap[R]? = some (.cells #[v] 53 (0, 0))
  row : OwM w 0 v L
  ne : v.ownBlock ≠ some R
def RtA (R : Nat) (L : List Mp) : Asn := fun w F => ∃ v, RtAt w R v L ∧ ∀ b, F b ↔ b = R ∨ v.ownBlock = some b
section
variable {w w' : World} {R : Nat} {v : Value} {L : List Mp} {F : Nat → Prop}
theorem RtAt.lt (h : RtAt w R v L) : R < w.heap.size := (Array.getElem?_eq_some_iff.1 h.top).1
theorem RtAt.cell (h : RtAt w R v L) : w.cell? ⟨R, 0, none⟩ = some v := by rw [cell_of_row _ _ _ _ _ _ h.top]; rfl
theorem RtAt.frz (h : RtAt w R v L) : w.frozen? ⟨R, 0, none⟩ = false := frozen_of_row _ _ _ _ _ h.top
theorem RtAt.keep (h : RtAt w R v L) (hk : ∀ b, b = R ∨ v.ownBlock = some b → w'.heap[b]? = w.heap[b]?) : RtAt w' R v L :=
  ⟨by rw [hk R (.inl rfl)]; exact h.top, h.row.keep (fun b hb => hk b (.inr hb)), h.ne⟩
theorem RtAt.below (h : RtAt w R v L) (hb : Below w.heap.size w w') : RtAt w' R v L :=
  h.keep (fun b hb' => hb.block b (by rcases hb' with rfl | hb'; exact h.lt; exact (h.row.blk hb').2))
theorem good_rt (R : Nat) (L : List Mp) : Good (RtA R L) := by
  refine ⟨?_, ?_⟩
  · rintro W H ⟨v, h, he⟩ b hb
    rcases (he b).1 hb with rfl | hb
    · exact h.lt
    · exact (h.row.blk hb).2
  · rintro W W' H ⟨v, h, he⟩ _ hk
    exact ⟨v, h.keep (fun b hb => hk b ((he b).2 hb)), he⟩
/-- the list turned for another of the call's own -/
theorem RtAt.turn (h : RtAt w R v L) (he : ∀ b, F b ↔ b = R ∨ v.ownBlock = some b) {r : Value} {K : List Mp} {base : Nat} (hr : OwM w' base r K) (hne : r.ownBlock ≠ some R) (hm : Mod F w w') (hl : ∀ b, r.ownBlock = some b → F b ∨ w.heap.size ≤ b) (ht : w'.heap[R]? = w.heap[R]?) :
    ∃ F', RtA R K (w'.setCell ⟨R, 0, none⟩ r) F' ∧ Ext F w F' (w'.setCell ⟨R, 0, none⟩ r) := by
  refine ⟨fun b => b = R ∨ r.ownBlock = some b, ⟨r, ⟨?_, ?_, hne⟩, fun _ => Iff.rfl⟩, hm.setCell (.inl ((he R).2 (.inl rfl))) _, ?_⟩
  · exact heap_setCell_same _ R 0 _ _ _ (ht.trans h.top)
  · exact hr.zero.keep (fun b hb => heap_setCell_other _ _ _ _ (fun e => hne (by rw [hb, e])))
  · rintro b (rfl | hb)
    · exact .inl ((he b).2 (.inl rfl))
    · exact hl b hb
end
/-- the program's table and the document's are alike -/
structure Ag (m : Nat → E) (L : List Mp) : Prop where
  inn : ∀ z ∈ L, ∃ v s : Nat, v < 16 ∧ s < 48 ∧ z = ⟨(v : Int), (s : Int), z.b⟩ ∧ m v = some (s, z.b)
  all : ∀ v, v < 16 → ∀ s b, m v = some (s, b) → (⟨(v : Int), (s : Int), b⟩ : Mp) ∈ L
  ne : L.Pairwise fun a b => a.v ≠ b.v
section
variable {m m' : Nat → E} {L L' : List Mp}
theorem Ag.zero : Ag nil [] := ⟨fun z hz => (by cases hz), fun v _ s b h => (by simp [Go.Proofs.Ytmflohehnoghhaa.nil] at h), List.Pairwise.nil⟩
theorem Ag.mem (h : Ag m L) {v s : Nat} {b : Bool} (hv : v < 16) : (⟨(v : Int), (s : Int), b⟩ : Mp) ∈ L ↔ m v = some (s, b) := by
  refine ⟨fun hz => ?_, h.all v hv s b⟩
  obtain ⟨v', s', h1, h2, h3, h4⟩ := h.inn _ hz
  simp only [Mp.mk.injEq] at h3
  obtain rfl : v = v' := by omega
  obtain rfl : s = s' := by omega
  exact h4
theorem Ag.nodup (h : Ag m L) : L.Nodup := h.ne.imp fun h e => h (by rw [e])
theorem Ag.perm (h : Ag m L) : L.Perm (ents m 16) := by
  refine (List.perm_ext_iff_of_nodup h.nodup ((ents_ne m 16).imp fun h e => h (by rw [e]))).2 fun z => ?_
  rw [mem_ents]
  constructor
  · intro hz
    obtain ⟨v, s, h1, h2, h3, h4⟩ := h.inn z hz
    exact ⟨v, s, z.b, h1, h4, h3⟩
  · rintro ⟨v, s, b, h1, h2, rfl⟩
    exact h.all v h1 s b h2
theorem Ag.len (h : Ag m L) : L.length ≤ 16 := by rw [h.perm.length_eq]; exact ents_len m 16
theorem Ag.no (h : Ag m L) {v : Nat} (hv : v < 16) (hm : m v = none) : ∀ z ∈ L, z.v ≠ (v : Int) := by
  intro z hz e
  obtain ⟨v', s', h1, h2, h3, h4⟩ := h.inn z hz
  rw [h3] at e
  simp only at e
  obtain rfl : v' = v := by omega
  rw [hm] at h4; cases h4
theorem Ag.hit (h : Ag m L) {v s : Nat} {b : Bool} (hv : v < 16) (hm : m v = some (s, b)) : ∃ i : Nat, L[i]? = some (⟨(v : Int), (s : Int), b⟩ : Mp) := List.mem_iff_getElem?.1 (h.all v hv s b hm)
theorem Ag.slot (h : Ag m L) {v s : Nat} {b : Bool} (hv : v < 16) (hm : m v = some (s, b)) : s < 48 := by
  obtain ⟨v', s', h1, h2, h3, h4⟩ := h.inn _ (h.all v hv s b hm)
  simp only [Mp.mk.injEq] at h3
  omega
theorem ne_at {L : List Mp} (h : L.Pairwise fun a b => a.v ≠ b.v) {i j : Nat} {z y : Mp} (hi : L[i]? = some z) (hj : L[j]? = some y) (e : z.v = y.v) : i = j := by
  obtain ⟨hi1, rfl⟩ := List.getElem?_eq_some_iff.1 hi
  obtain ⟨hj1, rfl⟩ := List.getElem?_eq_some_iff.1 hj
  rcases Nat.lt_trichotomy i j with h1 | h1 | h1
  · exact (List.pairwise_iff_getElem.1 h i j hi1 hj1 h1 e).elim
  · exact h1
  · exact (List.pairwise_iff_getElem.1 h j i hj1 hi1 h1 e.symm).elim
theorem Ag.put (h : Ag m L) {v s : Nat} {b : Bool} (hv : v < 16) (hs : s < 48) (hm : m v = none) : Ag (upd m v (some (s, b))) (L ++ [⟨(v : Int), (s : Int), b⟩]) := by
  refine ⟨fun z hz => ?_, fun v' hv' s' b' h' => ?_, ?_⟩
  · rcases List.mem_append.1 hz with hz | hz
    · obtain ⟨v', s', h1, h2, h3, h4⟩ := h.inn z hz
      refine ⟨v', s', h1, h2, h3, ?_⟩
      rw [upd_other _ _ (fun e => by subst e; rw [hm] at h4; cases h4)]; exact h4
    · simp at hz; subst hz
      exact ⟨v, s, hv, hs, rfl, upd_same _ _ _⟩
  · by_cases e : v' = v
    · subst e; rw [upd_same] at h'; cases h'; simp
    · rw [upd_other _ _ e] at h'
      exact List.mem_append_left _ (h.all v' hv' s' b' h')
  · refine List.pairwise_append.2 ⟨h.ne, List.pairwise_singleton _ _, fun a ha b' hb' => ?_⟩
    simp at hb'; subst hb'
    exact h.no hv hm a ha
theorem Ag.sub (h : Ag m L) (hs : L'.Sublist L) (hm : ∀ v, v < 16 → ∀ s b, m' v = some (s, b) ↔ m v = some (s, b) ∧ (⟨(v : Int), (s : Int), b⟩ : Mp) ∈ L') : Ag m' L' := by
  refine ⟨fun z hz => ?_, fun v hv s b h' => ((hm v hv s b).1 h').2, h.ne.sublist hs⟩
  obtain ⟨v', s', h1, h2, h3, h4⟩ := h.inn z (hs.subset hz)
  refine ⟨v', s', h1, h2, h3, (hm v' h1 s' z.b).2 ⟨h4, ?_⟩⟩
  rw [← h3]; exact hz
theorem Ag.cut (h : Ag m L) {v i : Nat} {z : Mp} (hv : v < 16) (hi : L[i]? = some z) (hz : z.v = (v : Int)) : Ag (upd m v none) (L.eraseIdx i) := by
  refine h.sub (List.eraseIdx_sublist _ _) fun v' hv' s b => ?_
  by_cases e : v' = v
  · subst e
    rw [upd_same]
    refine ⟨fun h => (by cases h), fun ⟨_, h2⟩ => ?_⟩
    obtain ⟨j, hne, hj⟩ := List.mem_eraseIdx_iff_getElem?.1 h2
    exact (hne (ne_at h.ne hj hi (by rw [hz]))).elim
  · rw [upd_other _ _ e]
    refine ⟨fun h1 => ⟨h1, ?_⟩, fun h1 => h1.1⟩
    obtain ⟨j, hj⟩ := List.mem_iff_getElem?.1 (h.all v' hv' s b h1)
    refine List.mem_eraseIdx_iff_getElem?.2 ⟨j, fun e2 => ?_, hj⟩
    subst e2
    rw [hi] at hj; cases hj
    simp only at hz
    omega
theorem Ag.prot (h : Ag m L) {v s i : Nat} {c b : Bool} (hv : v < 16) (hm : m v = some (s, c)) (hi : L[i]? = some ⟨(v : Int), (s : Int), c⟩) : Ag (upd m v (some (s, b))) (L.set i ⟨(v : Int), (s : Int), b⟩) := by
  have hil : i < L.length := (List.getElem?_eq_some_iff.1 hi).1
  have hs := h.slot hv hm
  have hset : ∀ j z, (L.set i ⟨(v : Int), (s : Int), b⟩)[j]? = some z → (j = i ∧ z = ⟨(v : Int), (s : Int), b⟩) ∨ (j ≠ i ∧ L[j]? = some z) := by
    intro j z hz
    by_cases e : j = i
    · subst e; rw [List.getElem?_set_self hil] at hz; cases hz; exact .inl ⟨rfl, rfl⟩
    · rw [List.getElem?_set_ne (fun e2 => e e2.symm)] at hz; exact .inr ⟨e, hz⟩
  refine ⟨fun z hz => ?_, fun v' hv' s' b' h' => ?_, ?_⟩
  · obtain ⟨j, hj⟩ := List.mem_iff_getElem?.1 hz
    rcases hset j z hj with ⟨_, rfl⟩ | ⟨hne, hj2⟩
    · exact ⟨v, s, hv, hs, rfl, upd_same _ _ _⟩
    · obtain ⟨v', s', h1, h2, h3, h4⟩ := h.inn z (List.mem_of_getElem? hj2)
      refine ⟨v', s', h1, h2, h3, ?_⟩
      rw [upd_other _ _ (fun e => ?_)]
      · exact h4
      · subst e
        exact hne (ne_at h.ne hj2 hi (by rw [h3]))
  · by_cases e : v' = v
    · subst e; rw [upd_same] at h'; cases h'
      exact List.mem_iff_getElem?.2 ⟨i, List.getElem?_set_self hil⟩
    · rw [upd_other _ _ e] at h'
      obtain ⟨j, hj⟩ := List.mem_iff_getElem?.1 (h.all v' hv' s' b' h')
      refine List.mem_iff_getElem?.2 ⟨j, ?_⟩
      rw [List.getElem?_set_ne (fun e2 => ?_)]
      · exact hj
      · subst e2; rw [hi] at hj; cases hj; omega
  · have hmap : (L.set i ⟨(v : Int), (s : Int), b⟩).map (·.v) = L.map (·.v) := by
      rw [List.map_set]
      apply List.ext_getElem?
      intro j
      by_cases e : i = j
      · subst e
        rw [List.getElem?_set_self (by simpa using hil), List.getElem?_map, hi]; rfl
      · rw [List.getElem?_set_ne e]
    have h1 : (L.map (·.v)).Pairwise (· ≠ ·) := List.pairwise_map.2 h.ne
    rw [← hmap] at h1
    exact List.pairwise_map.1 h1
end
end Go.Proofs.Ytmflohehnoghhaa
