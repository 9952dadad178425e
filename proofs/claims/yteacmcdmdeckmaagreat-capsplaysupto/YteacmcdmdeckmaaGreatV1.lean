import Derived.Test.YteacmcdmdeckmaaGreatU1
namespace Go.Proofs.YteacmcdmdeckmaaGreat
open Go.RowKit

theorem look_len {bk : List (Option Lst)} {i : Nat} (h : (look bk (i : Int)).isSome = true) : ∃ l, bk[i]? = some (some l) ∧ look bk (i : Int) = some l := by
  rw [look_nat] at h ⊢
  cases hb : bk[i]? with
  | none => rw [hb] at h; cases h
  | some o =>
    cases o with
    | none => rw [hb] at h; cases h
    | some l => exact ⟨l, rfl, rfl⟩
theorem look_free {bk : List (Option Lst)} {i : Nat} (hi : i < bk.length) (h : (look bk (i : Int)).isSome = false) : bk[i]? = some none := by
  rw [look_nat] at h
  rw [List.getElem?_eq_getElem hi] at h ⊢
  cases hb : bk[i] with
  | none => rfl
  | some l => rw [hb] at h; cases h
/-- what Open leaves -/
theorem open_view {bk bk' : List (Option Lst)} {i : Nat} {c : Int} (hi : i < bk.length) (h : (look bk (i : Int)).isSome = false) (ho : OpenR bk i c bk') :
    c = 0 ∧ (∀ a b : Nat, atB bk' (a : Int) (b : Int) = atB bk (a : Int) (b : Int)) ∧ ∀ x : Nat, (look bk' (x : Int)).isSome = ((look bk (x : Int)).isSome || decide (x = i)) := by
  have hf := look_free hi h
  rcases ho with ⟨k, hk, h1, rfl, rfl⟩ | ⟨_, _, h1⟩
  · obtain rfl : i = k := by omega
    refine ⟨rfl, fun a b => ?_, fun x => ?_⟩
    · unfold atB
      rw [look_nat, look_nat]
      by_cases e : i = a
      · subst e
        rw [List.getElem?_set_self hi, hf]
        show look (List.replicate 48 none) (b : Int) = none
        rw [look_nat, List.getElem?_replicate]
        split <;> rfl
      · rw [List.getElem?_set_ne e]
    · rw [look_nat, look_nat]
      by_cases e : i = x
      · subst e; rw [List.getElem?_set_self hi]; simp
      · rw [List.getElem?_set_ne e]
        have : ¬ x = i := fun e' => e e'.symm
        simp [this]
  · exact (h1 i rfl hf).elim
/-- what a laying leaves -/
theorem lay_view {bk : List (Option Lst)} {i : Nat} {l l' : Lst} {a v c : Int} {r : Rc} (hl : bk[i]? = some (some l)) (h48 : l.length = 48) (h : LayR l a r v c l') :
    (∃ k : Nat, k < 48 ∧ v = k ∧ c = 0 ∧ atB bk (i : Int) (k : Int) = none ∧ (a < 0 → ∀ j : Nat, j < k → atB bk (i : Int) (j : Int) ≠ none) ∧ (0 ≤ a → a = k) ∧
      Shape bk (bk.set i (some l')) ∧ ∀ x y : Nat, atB (bk.set i (some l')) (x : Int) (y : Int) = if x = i ∧ y = k then some r else atB bk (x : Int) (y : Int)) ∨
    (v = -1 ∧ c ≠ 0 ∧ bk.set i (some l') = bk ∧ ((a < 0 ∧ ∀ j : Nat, j < 48 → atB bk (i : Int) (j : Int) ≠ none) ∨ (0 ≤ a ∧ 48 ≤ a) ∨ (0 ≤ a ∧ ∃ x, atB bk (i : Int) a = some x))) := by
  have hi : i < bk.length := (List.getElem?_eq_some_iff.1 hl).1
  have hlf : lf bk i = l := by unfold lf; rw [look_nat, hl]; rfl
  rcases h with ⟨k, hk, hf, rfl, rfl, rfl, h7⟩ | ⟨rfl, rfl, h7⟩
  · refine .inl ⟨k, by omega, rfl, rfl, by rw [atN_eq hl, hf]; rfl, fun ha j hj => ?_, fun ha => ?_, shape_set hl, fun x y => ?_⟩
    · rcases h7 with ⟨_, rfl⟩ | h7
      · obtain ⟨x, hx⟩ := ff_held hj
        rw [atN_eq hl, hx]; simp
      · omega
    · rcases h7 with ⟨h8, _⟩ | h7
      · omega
      · exact h7
    · have := atB_setAt (o := some r) hl (show k < l.length from hk) x y
      unfold setAt at this
      rw [hlf] at this
      exact this
  · have hself : bk.set i (some l') = bk := by
      obtain ⟨hi2, e2⟩ := List.getElem?_eq_some_iff.1 hl
      rw [← e2]; exact List.set_getElem_self hi2
    rcases h7 with ⟨h8, h9, rfl⟩ | ⟨h8, h9, rfl⟩ | ⟨h8, ⟨x, hx⟩, rfl⟩
    · refine .inr ⟨rfl, by decide, hself, .inl ⟨h8, fun j hj => ?_⟩⟩
      obtain ⟨x, hx⟩ := ff_held (m := l') (j := j) (by omega)
      rw [atN_eq hl, hx]; simp
    · exact .inr ⟨rfl, by decide, hself, .inr (.inl ⟨h8, by omega⟩)⟩
    · refine .inr ⟨rfl, by decide, hself, .inr (.inr ⟨h8, x, ?_⟩)⟩
      unfold atB
      rw [look_nat, hl]
      exact hx
/-- a book in which just the lists 0 to 3 are open -/
def Four (bk : List (Option Lst)) : Prop := ∀ x : Nat, (look bk (x : Int)).isSome = decide (x < 4)
theorem Four.shape {bk bk' : List (Option Lst)} (h : Four bk) (hs : Shape bk bk') : Four bk' := fun x => (hs x).trans (h x)
/-- what begun leaves -/
structure Begun (bk : List (Option Lst)) (k o s r : Int) : Prop where
  four : Four bk
  at0 : ∀ a b : Nat, atB bk (a : Int) (b : Int) = if a = 0 ∧ b = 0 then some ⟨k, o, s, r, -1, -1⟩ else none
theorem okR_self (r : Int) (h0 : 0 ≤ r) (h15 : r ≤ 15) (hg : (bits .and .i64 r 4 == 0) = false) (q : Rc) (hq : q.r = r) : okR r q = true := by
  unfold okR
  rw [hq]
  obtain ⟨n, rfl⟩ : ∃ n : Nat, r = n := ⟨r.toNat, by omega⟩
  have hn : n < 16 := by omega
  have : ∀ m : Fin 16, (bits .and .i64 ((m.val : Nat) : Int) 4 == 0) = false → (bits .andNot .i64 (bits .or .i64 ((m.val : Nat) : Int) 4) ((m.val : Nat) : Int) == 0) = true := by decide
  exact this ⟨n, hn⟩ hg
end Go.Proofs.YteacmcdmdeckmaaGreat
