import Derived.RangeFuncNested
import Derived.RangeFuncBound
import Derived.RangeFuncCalls
import Derived.RangeFuncLeaves
import Derived.RangeFuncBox
import Derived.Shelf.Abstract
import Derived.Shelf.RegionOpen
import Derived.OwnWalkIn
import Derived.TacticsInMore
import Derived.LoopNIn
import Derived.LoopIn
import Derived.Maps.OwnIn
import Derived.Test.YteacmcdmdeckmaaGreatB2
namespace Go.Proofs.YteacmcdmdeckmaaGreat
open Go.RowKit Go.Shelf
attribute [local go_sem] Oper.semAt_some

/-- the taken places from s on, rising, with their values -/
def prsL {α : Type} (s : Nat) : List (Option α) → List (Nat × α)
  | [] => []
  | none :: t => prsL (s + 1) t
  | some x :: t => (s, x) :: prsL (s + 1) t
def prs {α : Type} (m : List (Option α)) (s : Nat) : List (Nat × α) := prsL s (m.drop s)
theorem prs_none {α : Type} {m : List (Option α)} {s : Nat} (h : look m (s : Int) = none) : prs m s = prs m (s + 1) := by
  unfold prs
  rcases Nat.lt_or_ge s m.length with hs | hs
  · rw [List.drop_eq_getElem_cons hs]
    rw [look_nat, List.getElem?_eq_getElem hs] at h
    cases hm : m[s] with
    | none => rfl
    | some x => rw [hm] at h; cases h
  · rw [List.drop_eq_nil_of_le hs, List.drop_eq_nil_of_le (by omega)]; rfl
theorem prs_some {α : Type} {m : List (Option α)} {s : Nat} {x : α} (h : m[s]? = some (some x)) : prs m s = (s, x) :: prs m (s + 1) := by
  unfold prs
  obtain ⟨hs, e⟩ := List.getElem?_eq_some_iff.1 h
  rw [List.drop_eq_getElem_cons hs, e]; rfl
theorem prs_skip {α : Type} {m : List (Option α)} {s : Nat} : ∀ (d : Nat), (∀ j : Nat, s ≤ j → j < s + d → look m (j : Int) = none) → prs m s = prs m (s + d)
  | 0, _ => rfl
  | d + 1, h => by
    rw [prs_skip d (fun j h1 h2 => h j h1 (by omega))]
    exact prs_none (h (s + d) (by omega) (by omega))
theorem prs_next {α : Type} {m : List (Option α)} {s k : Nat} {x : α} (h : IsNext m s k) (hx : m[k]? = some (some x)) : prs m s = (k, x) :: prs m (k + 1) := by
  have e := prs_skip (m := m) (s := s) (k - s) (fun j h1 h2 => h.2.2 j h1 (by omega))
  rw [e, show s + (k - s) = k by have := h.1; omega, prs_some hx]
theorem prs_end {α : Type} {m : List (Option α)} {s : Nat} (h : NoNext m s) : prs m s = [] := by
  have e := prs_skip (m := m) (s := s) m.length (fun j h1 _ => h j h1)
  rw [e]; unfold prs
  rw [List.drop_eq_nil_of_le (by omega)]; rfl
theorem prsL_mem {α : Type} : ∀ (l : List (Option α)) (s k : Nat) (x : α), (k, x) ∈ prsL s l ↔ s ≤ k ∧ l[k - s]? = some (some x)
  | [], s, k, x => by simp [prsL]
  | none :: t, s, k, x => by
    rw [prsL, prsL_mem t (s + 1) k x]
    constructor
    · rintro ⟨h1, h2⟩
      refine ⟨by omega, ?_⟩
      rw [show k - s = (k - (s + 1)) + 1 by omega]; exact h2
    · rintro ⟨h1, h2⟩
      rcases Nat.eq_or_lt_of_le h1 with rfl | h3
      · simp at h2
      · refine ⟨by omega, ?_⟩
        rw [show k - s = (k - (s + 1)) + 1 by omega] at h2; exact h2
  | some y :: t, s, k, x => by
    rw [prsL, List.mem_cons, prsL_mem t (s + 1) k x]
    constructor
    · rintro (h | ⟨h1, h2⟩)
      · cases h; simp
      · refine ⟨by omega, ?_⟩
        rw [show k - s = (k - (s + 1)) + 1 by omega]; exact h2
    · rintro ⟨h1, h2⟩
      rcases Nat.eq_or_lt_of_le h1 with rfl | h3
      · simp at h2; subst h2; exact .inl rfl
      · refine .inr ⟨by omega, ?_⟩
        rw [show k - s = (k - (s + 1)) + 1 by omega] at h2; exact h2
theorem prs_mem {α : Type} {m : List (Option α)} {k : Nat} {x : α} : (k, x) ∈ prs m 0 ↔ m[k]? = some (some x) := by
  unfold prs; rw [prsL_mem]; simp
theorem prsL_sorted {α : Type} : ∀ (l : List (Option α)) (s : Nat), (prsL s l).Pairwise (fun a b => a.1 < b.1)
  | [], _ => .nil
  | none :: t, s => prsL_sorted t (s + 1)
  | some y :: t, s => .cons (fun q hq => by
      have := (prsL_mem t (s + 1) q.1 q.2).1 hq
      show s < q.1
      omega) (prsL_sorted t (s + 1))
theorem prsL_len {α : Type} : ∀ (l : List (Option α)) (s : Nat), (prsL s l).length = l.countP Option.isSome
  | [], _ => rfl
  | none :: t, s => by rw [prsL, prsL_len t (s + 1)]; simp
  | some y :: t, s => by rw [prsL, List.length_cons, prsL_len t (s + 1)]; simp
theorem prs_len {α : Type} (m : List (Option α)) : (prs m 0).length = m.countP Option.isSome := by unfold prs; rw [prsL_len]; simp

/-- what a round that goes on keeps: these blocks -/
def KeepF (G : Nat → Prop) (W W' : World) : Prop := W.heap.size ≤ W'.heap.size ∧ ∀ b, G b → W'.heap[b]? = W.heap[b]?
theorem keepF_t {G : Nat → Prop} {A B C : World} (h : KeepF G A B) (k : KeepF G B C) : KeepF G A C := ⟨Nat.le_trans h.1 k.1, fun b hb => (k.2 b hb).trans (h.2 b hb)⟩
theorem keepF_b {G : Nat → Prop} {w : World} (hG : ∀ b, G b → b < w.heap.size) (W : World) (l : Nat) (o o' : Obj) (hl : w.heap.size ≤ l) (_ : W.heap[l]? = some o) (_ : o.isCells = false) (_ : o.isWalk = false) : KeepF G W (W.putObj l o') :=
  ⟨by simp, fun b hb => World.putObj_heap_other (fun e => by have := hG b hb; omega)⟩

/-- where a range by Next stands -/
def At {α : Type} (m : List (Option α)) (s : Nat) (q : Int) : Prop := (∃ k : Nat, q = k ∧ IsNext m s k) ∨ (q = -1 ∧ NoNext m s)
/-- the measure of a range by Next -/
def meas (b : Nat) (i : Value) : Nat := if intOf i < 0 then 0 else b + 1 - (intOf i).toNat
theorem meas_next {k q : Nat} {i : Int} (hq : q < k) (h : (∃ q' : Nat, i = q' ∧ q + 1 ≤ q') ∨ i = -1) : meas k (.int .i64 i) < meas k (.int .i64 (q : Int)) := by
  have e : ∀ x : Int, meas k (.int .i64 x) = if x < 0 then 0 else k + 1 - x.toNat := fun _ => rfl
  rw [e, e]
  rcases h with ⟨q', rfl, h2⟩ | rfl
  · rw [if_neg (by omega), if_neg (by omega)]; omega
  · rw [if_pos (by omega), if_neg (by omega)]; omega

theorem look_prs {α : Type} {m : List (Option α)} {k : Nat} {x : α} : look m (k : Int) = some x ↔ (k, x) ∈ prs m 0 := by
  rw [prs_mem, look_nat]
  cases hm : m[k]? with
  | none => simp
  | some o => cases o <;> simp
end Go.Proofs.YteacmcdmdeckmaaGreat
