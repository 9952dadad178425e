import Derived.Test.YtngmnlmagbfijaaPT
namespace Go.Proofs.Ytngmnlmagbfijaa
theorem pickT_spec {last : Int} {R : List Int} (hs : R.Pairwise (fun a b => a ≤ b)) (hne : R ≠ []) : (last < pickT last R ∧ ∀ y ∈ R, last < y → pickT last R ≤ y) ∨ ((∀ y ∈ R, y ≤ last) ∧ ∀ y ∈ R, pickT last R ≤ y) := by
  unfold pickT
  cases hf : R.find? (fun x => decide (last < x)) with
  | some c =>
    left
    rw [List.find?_eq_some_iff_getElem] at hf
    obtain ⟨h1, i, hi, rfl, h2⟩ := hf
    refine ⟨by simpa using h1, fun y hy hly => ?_⟩
    obtain ⟨j, hj, rfl⟩ := List.getElem_of_mem hy
    rw [Option.getD_some]
    rcases Nat.lt_trichotomy i j with h | h | h
    · exact (List.pairwise_iff_getElem.1 hs) i j hi hj h
    · subst h; exact Int.le_refl _
    · have := h2 j h
      simp at this
      omega
  | none =>
    right
    rw [List.find?_eq_none] at hf
    refine ⟨fun y hy => by have := hf y hy; simp at this; exact this, fun y hy => ?_⟩
    cases R with
    | nil => exact absurd rfl hne
    | cons a t =>
      rw [List.pairwise_cons] at hs
      rcases List.mem_cons.1 hy with rfl | h
      · exact Int.le_refl _
      · exact hs.1 y h
/-- later, going round from who -/
def Rnd (who p q : Int) : Prop := (who < p ∧ q < who) ∨ ((who < p ∧ who < q ∨ p < who ∧ q < who) ∧ p < q)
theorem Rnd.trans {who p q r : Int} (h : Rnd who p q) (k : Rnd who q r) : Rnd who p r := by unfold Rnd at *; omega
theorem Rnd.ne {who p q : Int} (h : Rnd who p q) : p ≠ q := by unfold Rnd at *; omega
theorem turn_step {a b : Ch} (hk : a.s.kind = 1) (hF : Follows a b) (ha : Okc a) (hb : Okc b) {who : Int} (hwb : who ∈ b.R) (hca : a.c ≠ who) (hcb : b.c ≠ who) : Rnd who a.c b.c := by
  obtain ⟨l, h1, h2⟩ := hF
  have hkn : (nextP a.s (srt a.R)).kind = 1 := by rw [nextP_kind]; exact hk
  have hl := (still_last l (nextP a.s (srt a.R)) h1 (by omega)).1
  have hla : (nextP a.s (srt a.R)).last = a.c := by unfold nextP; rw [if_pos hk]; exact ha.2.2.symm
  have hbl : b.s.last = a.c := by rw [h2, hl, hla]
  have hbk : b.s.kind = 1 := by rw [h2, runS_kind]; exact hkn
  have hp : b.c = pickT a.c (srt b.R) := by rw [hb.2.2]; unfold pick; rw [if_pos hbk, hbl]
  have hw : who ∈ srt b.R := srt_mem.2 hwb
  have hs := pickT_spec (last := a.c) (srt_le b.R) hb.1
  rw [← hp] at hs
  unfold Rnd
  rcases hs with ⟨h3, h4⟩ | ⟨h3, h4⟩
  · by_cases hlt : a.c < who
    · have := h4 who hw hlt
      omega
    · omega
  · have := h3 who hw
    have := h4 who hw
    omega
/-- the chosen ones, all different -/
theorem turns_run (L : List Ch) (hC : Chain L) (hk : ∀ x ∈ L, x.s.kind = 1) (who : Int) (b : Nat) (hb : b < L.length) (hw : ∀ j x, j ≤ b → L[j]? = some x → x.c ≠ who ∧ who ∈ x.R) :
    ∀ i j x y, i < j → j ≤ b → L[i]? = some x → L[j]? = some y → Rnd who x.c y.c := by
  intro i j
  induction j with
  | zero => intro x y h; omega
  | succ j ih =>
    intro x y hij hjb hx hy
    obtain ⟨z, hz⟩ : ∃ z, L[j]? = some z := ⟨L[j]'(by omega), List.getElem?_eq_getElem _⟩
    have hst := turn_step (hk z (List.mem_of_getElem? hz)) (hC.2 j z y hz hy) (hC.1 z (List.mem_of_getElem? hz)) (hC.1 y (List.mem_of_getElem? hy)) (hw (j + 1) y hjb hy).2 (hw j z (by omega) hz).1 (hw (j + 1) y hjb hy).1
    rcases Nat.lt_or_ge i j with h | h
    · exact (ih x z h (by omega) hx hz).trans hst
    · obtain rfl : i = j := by omega
      rw [hx] at hz
      cases hz
      exact hst
theorem Okc.mem {x : Ch} (h : Okc x) : x.c ∈ x.R := by rw [h.2.2]; exact srt_mem.1 (pick_mem h.1)
theorem ns_of (L : List Ch) (hC : Chain L) (hk : ∀ x ∈ L, x.s.kind = 1) (l : List Cz) (hl : l.map (fun c => (c.R, c.c)) = L.map (fun x => (x.R, x.c))) (who : Int) : NS l who := by
  intro b hb hw
  have hlen : l.length = L.length := by simpa using congrArg List.length hl
  have hget : ∀ (j : Nat) (x : Ch), L[j]? = some x → ∃ c, l[j]? = some c ∧ c.R = x.R ∧ c.c = x.c := fun j x hx => by
    have h1 := congrArg (fun t => t[j]?) hl
    simp only [List.getElem?_map, hx, Option.map_some] at h1
    cases hc : l[j]? with
    | none => rw [hc] at h1; simp at h1
    | some c => rw [hc] at h1; simp at h1; exact ⟨c, rfl, h1.1, h1.2⟩
  have hw2 : ∀ j x, j ≤ b → L[j]? = some x → x.c ≠ who ∧ who ∈ x.R := fun j x hj hx => by
    obtain ⟨c, h1, h2, h3⟩ := hget j x hx
    have := hw j c hj h1
    rw [← h2, ← h3]; exact this
  have hr := turns_run L hC hk who b (by omega) hw2
  refine ⟨who :: (L.take (b + 1)).map (·.c), ?_, by simp; omega, fun t ht => ?_⟩
  · rw [List.nodup_cons]
    constructor
    · intro h
      obtain ⟨x, hx, he⟩ := List.mem_map.1 h
      obtain ⟨j, hj, rfl⟩ := List.getElem_of_mem hx
      rw [List.length_take] at hj
      rw [List.getElem_take] at he
      exact (hw2 j _ (by omega) (List.getElem?_eq_getElem (by omega))).1 he
    · rw [List.Nodup, List.pairwise_map, List.pairwise_iff_getElem]
      intro i j hi hj hij
      rw [List.length_take] at hi hj
      rw [List.getElem_take, List.getElem_take]
      exact (hr i j _ _ hij (by omega) (List.getElem?_eq_getElem (by omega)) (List.getElem?_eq_getElem (by omega))).ne
  · rcases List.mem_cons.1 ht with rfl | h
    · obtain ⟨x, hx⟩ : ∃ x, L[0]? = some x := ⟨L[0]'(by omega), List.getElem?_eq_getElem _⟩
      obtain ⟨c, h1, h2, _⟩ := hget 0 x hx
      exact ⟨0, c, by omega, h1, by rw [h2]; exact (hw2 0 x (by omega) hx).2⟩
    · obtain ⟨x, hx, rfl⟩ := List.mem_map.1 h
      obtain ⟨j, hj, rfl⟩ := List.getElem_of_mem hx
      rw [List.length_take] at hj
      rw [List.getElem_take]
      have hxj : L[j]? = some (L[j]'(by omega)) := List.getElem?_eq_getElem _
      obtain ⟨c, h1, h2, _⟩ := hget j _ hxj
      exact ⟨j, c, by omega, h1, by rw [h2]; exact (hC.1 _ (List.getElem_mem _)).mem⟩
theorem Chain.drop {L : List Ch} (h : Chain L) (a : Nat) : Chain (L.drop a) := by
  refine ⟨fun x hx => h.1 x (List.mem_of_mem_drop hx), fun i p q hp hq => ?_⟩
  rw [List.getElem?_drop] at hp hq
  exact h.2 (a + i) p q hp (by rw [← hq]; congr 1)
/-- by turns nobody starves -/
theorem turns_ns (os : List Og) (a : Nat) (who : Int) : NS ((runC (start 1) false os).drop a) who := by
  obtain ⟨L, h1, h2, _, h4⟩ := chain_of os (start 1) false
  exact ns_of (L.drop a) (h2.drop a) (fun x hx => h4 x (List.mem_of_mem_drop hx)) _ (by rw [List.map_drop, List.map_drop, h1]) who
end Go.Proofs.Ytngmnlmagbfijaa
