import Derived.Test.YteacmcdmdeckmaaGreatT1
import Derived.Laws.MakeOwn
import Derived.Laws.ResultCell
namespace Go.Proofs.YteacmcdmdeckmaaGreat
open Go.RowKit

/-- what lies at i -/
def look {α : Type} (m : List (Option α)) (i : Int) : Option α := if i < 0 then none else (m[i.toNat]?).join
theorem look_nat {α : Type} (m : List (Option α)) (k : Nat) : look m (k : Int) = (m[k]?).join := by
  unfold look; rw [if_neg (by omega)]; simp
theorem look_out {α : Type} (m : List (Option α)) (i : Int) (h : i < 0 ∨ (m.length : Int) ≤ i) : look m i = none := by
  unfold look; split
  · rfl
  · rw [List.getElem?_eq_none (by omega)]; rfl
theorem look_cases {α : Type} (m : List (Option α)) (i : Int) : ((i < 0 ∨ (m.length : Int) ≤ i) ∧ look m i = none) ∨ (∃ k : Nat, i = k ∧ k < m.length ∧ m[k]? = some none ∧ look m i = none) ∨ ∃ (k : Nat) (x : α), i = k ∧ k < m.length ∧ m[k]? = some (some x) ∧ look m i = some x := by
  by_cases h : i < 0 ∨ (m.length : Int) ≤ i
  · exact .inl ⟨h, look_out m i h⟩
  · obtain ⟨k, rfl⟩ : ∃ k : Nat, i = k := ⟨i.toNat, by omega⟩
    have hk : k < m.length := by omega
    rcases hm : m[k] with _ | x
    · exact .inr (.inl ⟨k, rfl, hk, by rw [List.getElem?_eq_getElem hk, hm], by rw [look_nat, List.getElem?_eq_getElem hk, hm]; rfl⟩)
    · exact .inr (.inr ⟨k, x, rfl, hk, by rw [List.getElem?_eq_getElem hk, hm], by rw [look_nat, List.getElem?_eq_getElem hk, hm]; rfl⟩)
theorem in_false {n k : Nat} (h : k < n) : decide ((k : Int) < 0 ∨ (n : Int) ≤ (k : Int)) = false := by simp; omega
/-- the lowest free place (the length, if there is none) -/
def ff {α : Type} (m : List (Option α)) : Nat := m.findIdx Option.isNone
theorem ff_le {α : Type} (m : List (Option α)) : ff m ≤ m.length := List.findIdx_le_length
theorem ff_free {α : Type} {m : List (Option α)} (h : ff m < m.length) : m[ff m]? = some none := by
  have := List.findIdx_getElem (w := h)
  rw [List.getElem?_eq_getElem h]
  refine congrArg some ?_
  unfold ff
  simpa using this
theorem ff_held {α : Type} {m : List (Option α)} {j : Nat} (h : j < ff m) : ∃ x, m[j]? = some (some x) := by
  have h1 := List.not_of_lt_findIdx h
  have h2 : j < m.length := Nat.lt_of_lt_of_le h (ff_le m)
  rw [List.getElem?_eq_getElem h2]
  cases hm : m[j] with
  | none => rw [hm] at h1; simp at h1
  | some x => exact ⟨x, rfl⟩
/-- k is the lowest taken place from s on -/
def IsNext {α : Type} (m : List (Option α)) (s k : Nat) : Prop := s ≤ k ∧ (∃ c, m[k]? = some (some c)) ∧ ∀ j : Nat, s ≤ j → j < k → look m (j : Int) = none
/-- there is none from s on -/
def NoNext {α : Type} (m : List (Option α)) (s : Nat) : Prop := ∀ j : Nat, s ≤ j → look m (j : Int) = none
theorem TabAt.setNew {α : Type} {K : Knd α} {w : World} {F : Nat → Prop} {B p : Nat} {ps : List (Option Nat)} {m : List (Option α)} (h : TabAt K w F B p ps m) {a : Addr} (ha : ¬ F a.block) (u : Value) : TabAt K (w.setCell a u) F B p ps m :=
  h.keep (by simp [World.setCell]) (fun b hb => Below.heap_setCell _ _ _ _ (fun e => by subst e; exact ha hb))
end Go.Proofs.YteacmcdmdeckmaaGreat
