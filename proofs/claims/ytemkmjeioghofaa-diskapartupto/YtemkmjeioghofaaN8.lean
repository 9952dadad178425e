import Derived.Test.YtemkmjeioghofaaN7
namespace Go.Proofs.Ytemkmjeioghofaa
open Go.RowKit

/-- the four lists, marked up to byte j of list k -/
structure LB (k j : Nat) (L : List (List Nat)) : Prop where
  len : L.length = 4
  row : ∀ (t : Nat) (zs : List Nat), L[t]? = some zs → zs.length = 128
  mark : ∀ (t : Nat) (zs : List Nat), L[t]? = some zs → ∀ jj, jj < 128 → (t < k ∨ (t = k ∧ jj < j)) → zs.getD jj 0 = 129 + t
theorem LB.start {x y : List Nat} (hx : x.length = 128) (hy : y.length = 128) : LB 0 0 [x, y, x, y] := by
  refine ⟨rfl, fun t zs hz => ?_, fun t zs hz jj _ h => by omega⟩
  have ht : t < 4 := (List.getElem?_eq_some_iff.1 hz).1
  obtain rfl | rfl | rfl | rfl : t = 0 ∨ t = 1 ∨ t = 2 ∨ t = 3 := by omega
  all_goals (simp at hz; subst hz; assumption)
theorem LB.get {k j t : Nat} {L : List (List Nat)} (h : LB k j L) (ht : t < 4) : ∃ zs, L[t]? = some zs ∧ zs.length = 128 := by
  have hl : t < L.length := by rw [h.len]; exact ht
  exact ⟨_, List.getElem?_eq_getElem hl, h.row t _ (List.getElem?_eq_getElem hl)⟩
theorem LB.next {k j : Nat} {L : List (List Nat)} {zs : List Nat} (h : LB k j L) (hz : L[k]? = some zs) (hj : j < 128) : LB k (j + 1) (L.set k (zs.set j (129 + k))) := by
  have hkl : k < L.length := (List.getElem?_eq_some_iff.1 hz).1
  refine ⟨by simpa using h.len, fun t ys hy => ?_, fun t ys hy jj hjj hc => ?_⟩
  · by_cases e : k = t
    · subst e
      rw [List.getElem?_set_self hkl] at hy
      cases hy
      rw [List.length_set]; exact h.row _ _ hz
    · rw [List.getElem?_set_ne e] at hy
      exact h.row t ys hy
  · by_cases e : k = t
    · subst e
      rw [List.getElem?_set_self hkl] at hy
      cases hy
      by_cases e2 : j = jj
      · subst e2
        rw [List.getD, List.getElem?_set_self (by rw [h.row _ _ hz]; exact hj)]; rfl
      · rw [List.getD, List.getElem?_set_ne e2]
        exact h.mark k zs hz jj hjj (by omega)
    · rw [List.getElem?_set_ne e] at hy
      exact h.mark t ys hy jj hjj (by omega)
theorem LB.wrap {k : Nat} {L : List (List Nat)} (h : LB k 128 L) : LB (k + 1) 0 L :=
  ⟨h.len, h.row, fun t zs hz jj hjj hc => h.mark t zs hz jj hjj (by omega)⟩
/-- the four lists behind the appends: k of them are longer by two -/
structure LC (k : Nat) (L : List (List Nat)) : Prop where
  len : L.length = 4
  row : ∀ (t : Nat) (zs : List Nat), L[t]? = some zs → zs.length = 128 ∨ (t < k ∧ zs.length = 130)
  mark : ∀ (t : Nat) (zs : List Nat), L[t]? = some zs → ∀ jj, jj < 128 → zs.getD jj 0 = 129 + t
theorem LB.done {L : List (List Nat)} (h : LB 4 0 L) : LC 0 L :=
  ⟨h.len, fun t zs hz => .inl (h.row t zs hz), fun t zs hz jj hjj => h.mark t zs hz jj hjj (.inl (by have := (List.getElem?_eq_some_iff.1 hz).1; rw [h.len] at this; exact this))⟩
theorem LC.get {k t : Nat} {L : List (List Nat)} (h : LC k L) (ht : t < 4) (hkt : k ≤ t) : ∃ zs, L[t]? = some zs ∧ zs.length = 128 := by
  have hl : t < L.length := by rw [h.len]; exact ht
  refine ⟨_, List.getElem?_eq_getElem hl, ?_⟩
  rcases h.row t _ (List.getElem?_eq_getElem hl) with h1 | h1
  · exact h1
  · omega
theorem LC.next {k : Nat} {L : List (List Nat)} {zs ys : List Nat} (h : LC k L) (hz : L[k]? = some zs) (hl : zs.length = 128) (hy : ys.length = 2) : LC (k + 1) (L.set k (zs ++ ys)) := by
  have hkl : k < L.length := (List.getElem?_eq_some_iff.1 hz).1
  refine ⟨by simpa using h.len, fun t xs hx => ?_, fun t xs hx jj hjj => ?_⟩
  · by_cases e : k = t
    · subst e
      rw [List.getElem?_set_self hkl] at hx
      cases hx
      right; rw [List.length_append]; omega
    · rw [List.getElem?_set_ne e] at hx
      rcases h.row t xs hx with h1 | h1
      · exact .inl h1
      · exact .inr ⟨by omega, h1.2⟩
  · by_cases e : k = t
    · subst e
      rw [List.getElem?_set_self hkl] at hx
      cases hx
      rw [List.getD, List.getElem?_append_left (by omega)]
      exact h.mark k zs hz jj hjj
    · rw [List.getElem?_set_ne e] at hx
      exact h.mark t xs hx jj hjj
end Go.Proofs.Ytemkmjeioghofaa
