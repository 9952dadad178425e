import Derived.Test.YtmflohehnoghhaaGG
namespace Go.Proofs.Ytmflohehnoghhaa
open Go.RowKit
theorem mem_ents {m : Nat → E} {k : Nat} {z : Mp} : z ∈ ents m k ↔ ∃ (v s : Nat) (b : Bool), v < k ∧ m v = some (s, b) ∧ z = ⟨(v : Int), (s : Int), b⟩ := by
  induction k with
  | zero => simp [ents]
  | succ k ih =>
    rcases h : m k with _ | ⟨s, b⟩
    · rw [ents_none h, ih]
      constructor
      · rintro ⟨v, s, b, h1, h2⟩; exact ⟨v, s, b, by omega, h2⟩
      · rintro ⟨v, s, b, h1, h2, h3⟩
        by_cases e : v = k
        · subst e; rw [h] at h2; cases h2
        · exact ⟨v, s, b, by omega, h2, h3⟩
    · rw [ents_some h, List.mem_append, ih]
      constructor
      · rintro (⟨v, s, b, h1, h2⟩ | h1)
        · exact ⟨v, s, b, by omega, h2⟩
        · simp at h1; exact ⟨k, s, b, by omega, h, h1⟩
      · rintro ⟨v, t, c, h1, h2, h3⟩
        by_cases e : v = k
        · subst e; rw [h] at h2; cases h2; right; simp [h3]
        · exact .inl ⟨v, t, c, by omega, h2, h3⟩
theorem ents_rise (m : Nat → E) (k : Nat) : (ents m k).Pairwise fun a b => a.v < b.v := by
  induction k with
  | zero => simp [ents]
  | succ k ih =>
    rcases h : m k with _ | ⟨s, b⟩
    · rw [ents_none h]; exact ih
    · rw [ents_some h, List.pairwise_append]
      refine ⟨ih, by simp, fun a ha c hc => ?_⟩
      obtain ⟨v, s, b, h1, h2, rfl⟩ := mem_ents.1 ha
      simp at hc; subst hc
      simp; omega
theorem lay_list (L : List Mp) (h1 : ∀ z ∈ L, 0 ≤ z.v ∧ z.v < 16 ∧ 0 ≤ z.s ∧ z.s < 48) (h2 : L.Pairwise fun a b => a.v ≠ b.v) :
    ∃ m', lay (fun k => L.getD k Mp.nil) L.length = .ok m' ∧ ∀ (v s : Nat) (b : Bool), m' v = some (s, b) ↔ (⟨(v : Int), (s : Int), b⟩ : Mp) ∈ L := by
  have hg : ∀ k (hk : k < L.length), L.getD k Mp.nil = L[k] := fun k hk => by simp [hk]
  obtain ⟨m', hm⟩ := lay_make (Z := fun k => L.getD k Mp.nil) (n := L.length) (fun k hk => by
      show 0 ≤ (L.getD k Mp.nil).v ∧ _
      rw [hg k hk]; exact h1 _ (List.getElem_mem hk))
    (fun i hi k hk => by
      show (L.getD k Mp.nil).v ≠ (L.getD i Mp.nil).v
      rw [hg k (by omega), hg i hi]
      exact List.pairwise_iff_getElem.1 h2 k i (by omega) hi hk)
  refine ⟨m', hm, fun v s b => ?_⟩
  rw [lay_some hm]
  constructor
  · rintro ⟨k, hk, hz⟩
    have hz' : L.getD k Mp.nil = ⟨(v : Int), (s : Int), b⟩ := hz
    rw [hg k hk] at hz'
    rw [← hz']; exact List.getElem_mem hk
  · intro hz
    obtain ⟨k, hk, he⟩ := List.getElem_of_mem hz
    exact ⟨k, hk, by show L.getD k Mp.nil = _; rw [hg k hk, he]⟩
/-- what Entries tells, in whatever order, is laid to the same table -/
theorem ents_lay {m : Nat → E} (hs : Sm m) {L : List Mp} (hL : ∀ z, z ∈ L ↔ z ∈ ents m 16) (h2 : L.Pairwise fun a b => a.v ≠ b.v) :
    ∃ m', lay (fun k => L.getD k Mp.nil) L.length = .ok m' ∧ same m' m = true := by
  obtain ⟨m', h3, h4⟩ := lay_list L (fun z hz => by
    obtain ⟨v, s, b, h5, h6, rfl⟩ := mem_ents.1 ((hL z).1 hz)
    have := hs v s b h6
    simp; omega) h2
  refine ⟨m', h3, same_iff.2 fun v hv => ?_⟩
  rcases hm : m v with _ | ⟨s, b⟩
  · rcases hm' : m' v with _ | ⟨s, b⟩
    · rfl
    · have := (hL _).1 ((h4 v s b).1 hm')
      obtain ⟨v', s', b', h5, h6, h7⟩ := mem_ents.1 this
      simp at h7
      obtain ⟨h7, h8, h9⟩ := h7
      obtain rfl : v = v' := by omega
      rw [hm] at h6; cases h6
  · exact (h4 v s b).2 ((hL _).2 (mem_ents.2 ⟨v, s, b, hv, hm, rfl⟩))
theorem ents_ne (m : Nat → E) (k : Nat) : (ents m k).Pairwise fun a b => a.v ≠ b.v := (ents_rise m k).imp fun h => by omega
theorem ents_rne (m : Nat → E) (k : Nat) : (ents m k).reverse.Pairwise fun a b => a.v ≠ b.v := by
  rw [List.pairwise_reverse]; exact (ents_rise m k).imp fun h => by omega
theorem ents_up {m : Nat → E} {i : Nat} (h : i + 1 < (ents m 16).length) : ((ents m 16).getD i Mp.nil).v < ((ents m 16).getD (i + 1) Mp.nil).v := by
  have := List.pairwise_iff_getElem.1 (ents_rise m 16) i (i + 1) (by omega) h (by omega)
  simpa [h, show i < (ents m 16).length by omega] using this
theorem rev_take {L : List Mp} {k : Nat} (h : k < L.length) : L.reverse.take (k + 1) = L.reverse.take k ++ [L.getD (L.length - 1 - k) Mp.nil] := by
  rw [List.take_add_one, List.getElem?_reverse h]
  simp [show L.length - 1 - k < L.length by omega]
end Go.Proofs.Ytmflohehnoghhaa
