import Derived.Test.YtimfgjndgfjjgaaV2
namespace Go.Proofs.Ytimfgjndgfjjgaa
open Go.RowKit

/-- the place of the last living one ahead of i -/
def upOf (line : List (Nat × Nat)) (th : List Bool) : Nat → Int × Int
  | 0 => (-1, -1)
  | i + 1 => if th[i]? = some true then (((line.getD i (0, 0)).1 : Int), ((line.getD i (0, 0)).2 : Int)) else upOf line th i
/-- the last living one ahead of i in the list 0 or 3 -/
def lastOf (line : List (Nat × Nat)) (th : List Bool) : Nat → Int × Int
  | 0 => (-1, -1)
  | i + 1 => if th[i]? = some true ∧ ((line.getD i (0, 0)).1 = 0 ∨ (line.getD i (0, 0)).1 = 3) then (((line.getD i (0, 0)).1 : Int), ((line.getD i (0, 0)).2 : Int)) else lastOf line th i
def rcl (u : Int × Int) : Rc := ⟨1, 5, 7, 15, u.1, u.2⟩
structure LineI (line : List (Nat × Nat)) (th : List Bool) (bk : List (Option Lst)) : Prop where
  len : th.length = line.length
  nd : line.Nodup
  four : Four bk
  yes : ∀ (i : Nat) (p : Nat × Nat), line[i]? = some p → th[i]? = some true → atB bk (p.1 : Int) (p.2 : Int) = some (rcl (upOf line th i))
  no : ∀ (i : Nat) (p : Nat × Nat), line[i]? = some p → th[i]? = some false → atB bk (p.1 : Int) (p.2 : Int) = none
  oth : ∀ a b : Nat, (a, b) ∉ line → atB bk (a : Int) (b : Int) = none
theorem nd_eq {line : List (Nat × Nat)} (h : line.Nodup) {i j : Nat} {p : Nat × Nat} (hi : line[i]? = some p) (hj : line[j]? = some p) : i = j := by
  obtain ⟨h1, e1⟩ := List.getElem?_eq_some_iff.1 hi
  obtain ⟨h2, e2⟩ := List.getElem?_eq_some_iff.1 hj
  exact (List.getElem_inj (h₀ := h1) (h₁ := h2) h).1 (e1.trans e2.symm)
theorem upOf_cases (line : List (Nat × Nat)) (th : List Bool) : ∀ i, upOf line th i = (-1, -1) ∨ ∃ j, j < i ∧ th[j]? = some true ∧ upOf line th i = (((line.getD j (0, 0)).1 : Int), ((line.getD j (0, 0)).2 : Int)) ∧ ∀ q, j < q → q < i → th[q]? ≠ some true
  | 0 => .inl rfl
  | i + 1 => by
    by_cases h : th[i]? = some true
    · exact .inr ⟨i, by omega, h, by simp [upOf, h], fun q h1 h2 => by omega⟩
    · have e : upOf line th (i + 1) = upOf line th i := by simp [upOf, h]
      rw [e]
      rcases upOf_cases line th i with h1 | ⟨j, h1, h2, h3, h4⟩
      · exact .inl h1
      · exact .inr ⟨j, by omega, h2, h3, fun q h5 h6 => by
          rcases Nat.lt_or_ge q i with h7 | h7
          · exact h4 q h5 h7
          · obtain rfl : q = i := by omega
            exact h⟩
theorem lastOf_skip (line : List (Nat × Nat)) (th : List Bool) : ∀ i, upOf line th i = (-1, -1) → (∀ q, q < i → th[q]? ≠ some true) → lastOf line th i = (-1, -1)
  | 0, _, _ => rfl
  | i + 1, h, hq => by
    have h1 : ¬ th[i]? = some true := hq i (by omega)
    have e : upOf line th (i + 1) = upOf line th i := by simp [upOf, h1]
    rw [e] at h
    have e2 : lastOf line th (i + 1) = lastOf line th i := by simp [lastOf, h1]
    rw [e2]
    exact lastOf_skip line th i h (fun q hq' => hq q (by omega))
theorem lastOf_to (line : List (Nat × Nat)) (th : List Bool) (j : Nat) : ∀ i, j < i → (∀ q, j < q → q < i → th[q]? ≠ some true) → lastOf line th i = lastOf line th (j + 1)
  | 0, h, _ => by omega
  | i + 1, h, hq => by
    rcases Nat.lt_or_ge j i with h1 | h1
    · have h2 : ¬ th[i]? = some true := hq i h1 (by omega)
      have e2 : lastOf line th (i + 1) = lastOf line th i := by simp [lastOf, h2]
      rw [e2]
      exact lastOf_to line th j i h1 (fun q h3 h4 => hq q h3 (by omega))
    · obtain rfl : i = j := by omega
      rfl
theorem upOf_none {line : List (Nat × Nat)} {th : List Bool} : ∀ i, upOf line th i = (-1, -1) → ∀ q, q < i → th[q]? ≠ some true
  | 0, _, q, hq => by omega
  | i + 1, h, q, hq => by
    by_cases h1 : th[i]? = some true
    · have e : upOf line th (i + 1) = (((line.getD i (0, 0)).1 : Int), ((line.getD i (0, 0)).2 : Int)) := by simp [upOf, h1]
      rw [e] at h
      have := congrArg Prod.fst h
      simp only at this
      omega
    · have e : upOf line th (i + 1) = upOf line th i := by simp [upOf, h1]
      rw [e] at h
      rcases Nat.lt_or_ge q i with h2 | h2
      · exact upOf_none i h q h2
      · obtain rfl : q = i := by omega
        exact h1
/-- Up from line's i-th comes to the last one in the list 0 or 3 -/
theorem LineI.ups {line : List (Nat × Nat)} {th : List Bool} {bk : List (Option Lst)} (h : LineI line th bk) {ins : Int → Bool} (hin : ∀ a : Nat, ins (a : Int) = decide (a = 0 ∨ a = 3)) : ∀ (n i : Nat), i ≤ n → i ≤ line.length → ∀ x y, Ups bk ins (upOf line th i).1 (upOf line th i).2 x y → (x, y) = lastOf line th i := by
  intro n
  induction n with
  | zero =>
    intro i hi hl x y hu
    obtain rfl : i = 0 := by omega
    generalize he : (upOf line th 0).1 = e at hu
    generalize ht : (upOf line th 0).2 = t at hu
    have h1 : e = -1 := he.symm
    have h2 : t = -1 := ht.symm
    cases hu using Ups.ind with
    | none => rfl
    | here _ _ r hr _ => subst h1; subst h2; unfold atB at hr; simp [look] at hr
    | up _ _ _ _ r hr _ _ => subst h1; subst h2; unfold atB at hr; simp [look] at hr
  | succ n ih =>
    intro i hi hl x y hu
    rcases upOf_cases line th i with h1 | ⟨j, hj, htj, h1, hgap⟩
    · rw [lastOf_skip line th i h1 (upOf_none i h1)]
      rw [h1] at hu
      generalize he : ((-1 : Int), (-1 : Int)).1 = e at hu
      generalize ht : ((-1 : Int), (-1 : Int)).2 = t at hu
      have h1 : e = -1 := he.symm
      have h2 : t = -1 := ht.symm
      cases hu using Ups.ind with
      | none => rfl
      | here _ _ r hr _ => subst h1; subst h2; unfold atB at hr; simp [look] at hr
      | up _ _ _ _ r hr _ _ => subst h1; subst h2; unfold atB at hr; simp [look] at hr
    · have hjl : j < line.length := by omega
      have hp : line[j]? = some (line.getD j (0, 0)) := by rw [List.getElem?_eq_getElem hjl]; simp [List.getD, hjl]
      have hat := h.yes j _ hp htj
      rw [lastOf_to line th j i hj hgap]
      rw [h1] at hu
      simp only at hu
      generalize he : (((line.getD j (0, 0)).1 : Nat) : Int) = e at hu
      generalize ht : (((line.getD j (0, 0)).2 : Nat) : Int) = t at hu
      cases hu using Ups.ind with
      | none => omega
      | here _ _ r hr hi2 =>
        rw [← he, hin] at hi2
        have hi3 : (line.getD j (0, 0)).1 = 0 ∨ (line.getD j (0, 0)).1 = 3 := by simpa using hi2
        have e2 : lastOf line th (j + 1) = (((line.getD j (0, 0)).1 : Int), ((line.getD j (0, 0)).2 : Int)) := by
          show (if th[j]? = some true ∧ _ then _ else _) = _
          rw [if_pos ⟨htj, hi3⟩]
        rw [e2, he, ht]
      | up _ _ _ _ r hr hi2 hu2 =>
        rw [← he, hin] at hi2
        have hi3 : ¬ ((line.getD j (0, 0)).1 = 0 ∨ (line.getD j (0, 0)).1 = 3) := by simpa using hi2
        have e2 : lastOf line th (j + 1) = lastOf line th j := by
          show (if th[j]? = some true ∧ _ then _ else _) = _
          rw [if_neg (fun hh => hi3 hh.2)]
        rw [e2]
        rw [← he, ← ht, hat] at hr
        cases hr
        exact ih j (by omega) (by omega) x y hu2
end Go.Proofs.Ytimfgjndgfjjgaa
