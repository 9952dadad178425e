import Derived.Test.YtimfgjndgfjjgaaXE
namespace Go.Proofs.Ytimfgjndgfjjgaa
open Go.RowKit Go.Shelf

theorem rp_same (i j : Nat) (r0 r : Rc) : (rp i j r0 r).k = r.k ∧ (rp i j r0 r).o = r.o ∧ (rp i j r0 r).s = r.s ∧ (rp i j r0 r).r = r.r := by
  unfold rp rq
  split <;> exact ⟨rfl, rfl, rfl, rfl⟩
theorem par_rp {i j : Nat} {r0 p r : Rc} (h : Par p r) : Par (rp i j r0 p) r := by
  obtain ⟨e1, e2, e3, e4⟩ := rp_same i j r0 p
  obtain ⟨h1, h2, h3, h4⟩ := h
  refine ⟨e1.trans h1, e2.trans h2, e3.trans h3, ?_⟩
  unfold okR at h4 ⊢
  rw [e4]; exact h4
theorem Snd.drop {bk bk' : List (Option Lst)} {f : Int → Int → Nat} (h : Snd bk f) {i j : Nat} {r0 : Rc} (hr0 : atB bk (i : Int) (j : Int) = some r0) (hd : DropR bk i j r0 bk') : Snd bk' f := by
  have look' : ∀ {x y : Int} {p : Rc}, atB bk x y = some p → ¬ (x = i ∧ y = j) → atB bk' x y = some (rp i j r0 p) := by
    intro x y p hp hne
    obtain ⟨a, b, _, rfl, rfl, _, _, _⟩ := atB_some hp
    rw [hd.2, if_neg (fun e => hne ⟨by rw [e.1], by rw [e.2]⟩), hp]; rfl
  intro e s r hr
  obtain ⟨a, b, _, rfl, rfl, _, _, _⟩ := atB_some hr
  rw [hd.2] at hr
  split at hr
  · cases hr
  · obtain ⟨q, hq, rfl⟩ := Option.map_eq_some_iff.1 hr
    obtain ⟨h1, h2⟩ := h _ _ _ hq
    have hR : Rt (rp i j r0 q) := by unfold Rt; rw [(rp_same i j r0 q).2.2.2]; exact h1
    refine ⟨hR, ?_⟩
    by_cases c : q.e = i ∧ q.t = j
    · have er : rp i j r0 q = rq r0.e r0.t q := by unfold rp; rw [if_pos c]
      rw [er]
      rcases h2 with h2 | ⟨p, h2, h3, h4⟩
      · omega
      · rw [c.1, c.2] at h2 h4
        rw [hr0] at h2; cases h2
        obtain ⟨g1, g2 | ⟨p', g2, g3, g4⟩⟩ := h _ _ _ hr0
        · exact .inl g2
        · refine .inr ⟨_, look' g2 (fun e => by have e' : r0.e = i ∧ r0.t = j := e; rw [e'.1, e'.2] at g4; omega), par_rp (i := i) (j := j) (r0 := r0) ?_, ?_⟩
          · exact Par.trans (q := r0) h1 g1 (h _ _ _ g2).1 g3 h3
          · show f r0.e r0.t < _
            omega
    · have er : rp i j r0 q = q := by unfold rp; rw [if_neg c]
      rw [er]
      rcases h2 with h2 | ⟨p, h2, h3, h4⟩
      · exact .inl h2
      · exact .inr ⟨_, look' h2 c, par_rp h3, h4⟩
theorem Snd.drops {bk bk' : List (Option Lst)} {f : Int → Int → Nat} (h : Snd bk f) {ps : List (Nat × Nat)} (hd : Drops ps bk bk') : Snd bk' f := by
  induction hd using Drops.ind with
  | nil => exact h
  | snoc _ hr hd ih => exact (ih h).drop hr hd
/-- one more at a free slot, under a parent or under none -/
theorem Snd.lay {bk bk' : List (Option Lst)} {f : Int → Int → Nat} (h : Snd bk f) {i k : Nat} {r : Rc} (hfree : atB bk (i : Int) (k : Int) = none) (hv : ∀ a b : Nat, atB bk' (a : Int) (b : Int) = if a = i ∧ b = k then some r else atB bk (a : Int) (b : Int)) (hR : Rt r)
    (hp : (r.e = -1 ∧ r.t = -1) ∨ ∃ p, atB bk r.e r.t = some p ∧ Par p r) : ∃ f', Snd bk' f' := by
  have up : ∀ {x y : Int} {p : Rc}, atB bk x y = some p → atB bk' x y = some p ∧ ¬ (x = i ∧ y = k) := by
    intro x y p hp
    have hne : ¬ (x = i ∧ y = k) := fun e => by rw [e.1, e.2, hfree] at hp; cases hp
    obtain ⟨a, b, _, rfl, rfl, _, _, _⟩ := atB_some hp
    rw [hv, if_neg (fun e => hne ⟨by rw [e.1], by rw [e.2]⟩)]
    exact ⟨hp, hne⟩
  refine ⟨fun x y => if x = i ∧ y = k then f r.e r.t + 1 else f x y, ?_⟩
  intro e s q hq
  obtain ⟨a, b, _, rfl, rfl, _, _, _⟩ := atB_some hq
  rw [hv] at hq
  split at hq
  · rename_i hab
    cases hq
    refine ⟨hR, ?_⟩
    rcases hp with hp | ⟨p, h1, h2⟩
    · exact .inl hp
    · obtain ⟨h3, h4⟩ := up h1
      refine .inr ⟨p, h3, h2, ?_⟩
      dsimp only
      rw [if_neg h4, if_pos ⟨by rw [hab.1], by rw [hab.2]⟩]
      omega
  · rename_i hab
    obtain ⟨h1, h2 | ⟨p, h2, h3, h4⟩⟩ := h _ _ _ hq
    · exact ⟨h1, .inl h2⟩
    · obtain ⟨h5, h6⟩ := up h2
      refine ⟨h1, .inr ⟨p, h5, h3, ?_⟩⟩
      dsimp only
      rw [if_neg h6, if_neg (fun e => hab ⟨by omega, by omega⟩)]
      exact h4
end Go.Proofs.Ytimfgjndgfjjgaa
