import Derived.Test.YtooikfmebjohfaaT4
import Derived.Test.YtooikfmebjohfaaT7
namespace Go.Proofs.Ytooikfmebjohfaa
open Go.RowKit

theorem dropC_any (w : World) (F : Nat → Prop) (B : Nat) (m : List (Option Cl)) (h : Tab KC w F B m) (i : Int) :
    Calls Try.prog 33 #[.pointer (some ⟨B, 0, none⟩), .int .i64 i] w fun e w' => ∃ v m', e = .returned v ∧ Tab KC w' F B m' ∧ Ext F w F w' ∧
      ((look m i = none ∧ m' = m ∧ v = .tuple #[Cl.zero.val, .bool false]) ∨ ∃ (k : Nat) (x : Cl), i = k ∧ m[k]? = some (some x) ∧ m' = m.set k none ∧ v = .tuple #[x.val, .bool true]) := by
  rcases look_cases m i with ⟨_, e⟩ | ⟨k, _, _, _, e⟩ | ⟨k, x, rfl, _, hm, _⟩
  · refine (dropC_none w F B m h i e).mono ?_
    rintro _ w' ⟨rfl, hT, hE⟩
    exact ⟨_, m, rfl, hT, hE, .inl ⟨e, rfl, rfl⟩⟩
  · refine (dropC_none w F B m h i e).mono ?_
    rintro _ w' ⟨rfl, hT, hE⟩
    exact ⟨_, m, rfl, hT, hE, .inl ⟨e, rfl, rfl⟩⟩
  · refine (dropC_some w F B m h k x hm).mono ?_
    rintro _ w' ⟨rfl, hT, hE⟩
    exact ⟨_, _, rfl, hT, hE, .inr ⟨k, x, rfl, hm, rfl, rfl⟩⟩

/-- the places below i hold their numbers, those from i on are free -/
def Filled (m : List (Option Cl)) (b i : Nat) : Prop := m.length = b ∧ (∀ j : Nat, j < i → m[j]? = some (some (cl (j : Int)))) ∧ ∀ j : Nat, i ≤ j → j < b → m[j]? = some none
/-- each place holds nothing or its number -/
def Part (m : List (Option Cl)) (b : Nat) : Prop := m.length = b ∧ ∀ (j : Nat) (x : Cl), m[j]? = some (some x) → x = cl (j : Int)
theorem Filled.start (b : Nat) : Filled (List.replicate b none) b 0 :=
  ⟨by simp, fun j h => by omega, fun j _ h => by simp [h]⟩
theorem Filled.ff {m : List (Option Cl)} {b i : Nat} (h : Filled m b i) (hi : i ≤ b) : ff m = i := by
  have h1 := ff_le m
  rw [h.1] at h1
  rcases Nat.lt_trichotomy (Ytooikfmebjohfaa.ff m) i with h2 | h2 | h2
  · have := ff_free (m := m) (by rw [h.1]; omega)
    rw [h.2.1 _ h2] at this; cases this
  · exact h2
  · obtain ⟨x, hx⟩ := ff_held h2
    rw [h.2.2 i (Nat.le_refl _) (by omega)] at hx; cases hx
theorem Filled.next {m : List (Option Cl)} {b i : Nat} (h : Filled m b i) (hi : i < b) : Filled (m.set i (some (cl (i : Int)))) b (i + 1) := by
  refine ⟨by simp [h.1], fun j hj => ?_, fun j hj hb => ?_⟩
  · rw [List.getElem?_set]
    split
    · rename_i e; subst e; rw [if_pos (by rw [h.1]; exact hi)]
    · exact h.2.1 j (by omega)
  · rw [List.getElem?_set, if_neg (by omega)]
    exact h.2.2 j (by omega) hb
theorem Filled.part {m : List (Option Cl)} {b : Nat} (h : Filled m b b) : Part m b := by
  refine ⟨h.1, fun j x hx => ?_⟩
  have hj : j < b := by rw [← h.1]; exact (List.getElem?_eq_some_iff.1 hx).1
  rw [h.2.1 j hj] at hx; cases hx; rfl
theorem Filled.count {m : List (Option Cl)} {b : Nat} (h : Filled m b b) : m.countP Option.isSome = b := by
  rw [← h.1]
  refine List.countP_eq_length.2 (fun a ha => ?_)
  obtain ⟨j, hj, rfl⟩ := List.getElem_of_mem ha
  have := h.2.1 j (by rw [← h.1]; exact hj)
  rw [List.getElem?_eq_getElem hj] at this
  rw [Option.some.inj this]; rfl
theorem Part.set {m : List (Option Cl)} {b : Nat} (h : Part m b) (k : Nat) : Part (m.set k none) b := by
  refine ⟨by simp [h.1], fun j x hx => ?_⟩
  rw [List.getElem?_set] at hx
  split at hx
  · split at hx <;> cases hx
  · exact h.2 j x hx
theorem look_set {α : Type} (m : List (Option α)) (k j : Nat) : look (m.set k none) (j : Int) = if k = j then none else look m (j : Int) := by
  rw [look_nat, look_nat, List.getElem?_set]
  split
  · split <;> rfl
  · rfl
/-- nothing lies below s -/
def Low (m : List (Option Cl)) (s : Nat) : Prop := ∀ j : Nat, j < s → look m (j : Int) = none
theorem Low.step {m : List (Option Cl)} {s k : Nat} (h : Low m s) (hn : IsNext m s k) : Low (m.set k none) (k + 1) := by
  intro j hj
  rw [look_set]
  split
  · rfl
  · rcases Nat.lt_or_ge j s with h1 | h1
    · exact h j h1
    · exact hn.2.2 j h1 (by omega)
theorem Low.empty {m : List (Option Cl)} {s b : Nat} (h : Low m s) (hn : NoNext m s) (hb : m.length = b) : m = List.replicate b none := by
  refine List.eq_replicate_iff.2 ⟨hb, fun a ha => ?_⟩
  obtain ⟨j, hj, rfl⟩ := List.getElem_of_mem ha
  have h1 : look m (j : Int) = none := by
    rcases Nat.lt_or_ge j s with h1 | h1
    · exact h j h1
    · exact hn j h1
  rw [look_nat, List.getElem?_eq_getElem hj] at h1
  cases hm : m[j] with
  | none => rfl
  | some x => rw [hm] at h1; cases h1
theorem count_none (b : Nat) : (List.replicate b (none : Option Cl)).countP Option.isSome = 0 := List.countP_eq_zero.2 (fun a ha => by rw [(List.mem_replicate.1 ha).2]; simp)
/-- the measure of a range by Next -/
def meas (b : Nat) (i : Value) : Nat := if intOf i < 0 then 0 else b + 1 - (intOf i).toNat
end Go.Proofs.Ytooikfmebjohfaa
