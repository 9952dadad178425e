import Derived.Test.YtimfgjndgfjjgaaZE
namespace Go.Proofs.Ytimfgjndgfjjgaa
open Go.RowKit Go.Shelf

/-- q came from p, directly or through others -/
inductive Desc (bk : List (Option Lst)) (p : Nat × Nat) : Nat × Nat → Prop
  | child {a b : Nat} {r : Rc} : atB bk (a : Int) (b : Int) = some r → r.e = (p.1 : Int) → r.t = (p.2 : Int) → Desc bk p (a, b)
  | step {q : Nat × Nat} {a b : Nat} {r : Rc} : Desc bk p q → atB bk (a : Int) (b : Int) = some r → r.e = (q.1 : Int) → r.t = (q.2 : Int) → Desc bk p (a, b)
theorem Desc.at' {bk : List (Option Lst)} {p q : Nat × Nat} (h : Desc bk p q) : ∃ r, atB bk (q.1 : Int) (q.2 : Int) = some r := by
  cases h with
  | child h1 => exact ⟨_, h1⟩
  | step _ h1 => exact ⟨_, h1⟩
theorem Desc.trans {bk : List (Option Lst)} {p q x : Nat × Nat} (h : Desc bk p q) (k : Desc bk q x) : Desc bk p x := by
  induction k with
  | child h1 h2 h3 => exact .step h h1 h2 h3
  | step _ h1 h2 h3 ih => exact .step ih h1 h2 h3
theorem bel_desc {bk : List (Option Lst)} : ∀ (n : Nat) {p x : Nat × Nat}, x ∈ bel n bk p → Desc bk p x
  | 0, _, _, h => by cases h
  | n + 1, p, x, h => by
    obtain ⟨c, h1, h2⟩ := List.mem_flatMap.1 h
    obtain ⟨r, h3, h4⟩ := mem_pls.1 (show (c.1, c.2) ∈ _ from h1)
    simp only [chP, Bool.and_eq_true, decide_eq_true_eq] at h4
    have hc : Desc bk p c := .child h3 h4.1 h4.2
    rcases List.mem_cons.1 h2 with rfl | h2
    · exact hc
    · exact hc.trans (bel_desc n h2)
theorem desc_bel {bk : List (Option Lst)} {n : Nat} {p x : Nat × Nat} (hd : Dep n bk p) (h : Desc bk p x) : x ∈ bel n bk p := by
  induction h with
  | child h1 h2 h3 =>
    cases n with
    | zero => exact hd.elim
    | succ n => exact List.mem_flatMap.2 ⟨_, mem_pls.2 ⟨_, h1, by simp [chP, h2, h3]⟩, List.mem_cons_self⟩
  | step _ h1 h2 h3 ih => exact bel_child n hd ih (mem_pls.2 ⟨_, h1, by simp [chP, h2, h3]⟩)
theorem desc_mono {bk bk' : List (Option Lst)} (hv : ∀ (a b : Nat) (r : Rc), atB bk (a : Int) (b : Int) = some r → atB bk' (a : Int) (b : Int) = some r) {p q : Nat × Nat} (h : Desc bk p q) : Desc bk' p q := by
  induction h with
  | child h1 h2 h3 => exact .child (hv _ _ _ h1) h2 h3
  | step _ h1 h2 h3 ih => exact .step ih (hv _ _ _ h1) h2 h3
theorem desc_congr {bk bk' : List (Option Lst)} (hv : ∀ a b : Nat, atB bk' (a : Int) (b : Int) = atB bk (a : Int) (b : Int)) (p q : Nat × Nat) : Desc bk' p q ↔ Desc bk p q :=
  ⟨desc_mono (fun a b r h => by rw [← hv]; exact h), desc_mono (fun a b r h => by rw [hv]; exact h)⟩
/-- one more was laid -/
theorem desc_lay {bk bk' : List (Option Lst)} {f : Int → Int → Nat} (hs : Snd bk f) {i k : Nat} {r : Rc} (hf : atB bk (i : Int) (k : Int) = none) (hv : ∀ a b : Nat, atB bk' (a : Int) (b : Int) = if a = i ∧ b = k then some r else atB bk (a : Int) (b : Int))
    (hp : (r.e = -1 ∧ r.t = -1) ∨ ∃ p, atB bk r.e r.t = some p) (p q : Nat × Nat) :
    Desc bk' p q ↔ Desc bk p q ∨ (q = (i, k) ∧ ((r.e = (p.1 : Int) ∧ r.t = (p.2 : Int)) ∨ ∃ q', Desc bk p q' ∧ r.e = (q'.1 : Int) ∧ r.t = (q'.2 : Int))) := by
  have hno : ∀ {x : Rc} {a b : Nat}, atB bk (a : Int) (b : Int) = some x → ¬ (x.e = (i : Int) ∧ x.t = (k : Int)) := by
    intro x a b hx e
    rcases (hs _ _ _ hx).2 with h1 | ⟨y, h1, _⟩
    · omega
    · rw [e.1, e.2, hf] at h1; cases h1
  constructor
  · intro h
    induction h with
    | @child a b x h1 h2 h3 =>
      rw [hv] at h1
      split at h1
      · rename_i e; cases h1; exact .inr ⟨Prod.ext e.1 e.2, .inl ⟨h2, h3⟩⟩
      · exact .inl (.child h1 h2 h3)
    | @step q' a b x hq h1 h2 h3 ih =>
      rw [hv] at h1
      split at h1
      · rename_i e
        cases h1
        rcases ih with ih | ⟨rfl, _⟩
        · exact .inr ⟨Prod.ext e.1 e.2, .inr ⟨q', ih, h2, h3⟩⟩
        · rcases hp with hp | ⟨y, hp⟩
          · omega
          · rw [h2, h3, hf] at hp; cases hp
      · rcases ih with ih | ⟨rfl, _⟩
        · exact .inl (.step ih h1 h2 h3)
        · exact (hno h1 ⟨h2, h3⟩).elim
  · have hm : ∀ {x y : Nat × Nat}, Desc bk x y → Desc bk' x y := desc_mono (fun a b x hx => by
      rw [hv, if_neg (fun e => by rw [e.1, e.2, hf] at hx; cases hx)]; exact hx)
    have hn : atB bk' (i : Int) (k : Int) = some r := by rw [hv, if_pos ⟨rfl, rfl⟩]
    rintro (h | ⟨rfl, h | ⟨q', h1, h2, h3⟩⟩)
    · exact hm h
    · exact .child hn h.1 h.2
    · exact .step (hm h1) hn h2 h3
/-- one was dropped -/
theorem desc_drop {bk bk' : List (Option Lst)} {f : Int → Int → Nat} (hs : Snd bk f) {i j : Nat} {r0 : Rc} (hr0 : atB bk (i : Int) (j : Int) = some r0) (hd : DropR bk i j r0 bk') {p : Nat × Nat} (hp : p ≠ (i, j)) (q : Nat × Nat) : Desc bk' p q ↔ Desc bk p q ∧ q ≠ (i, j) := by
  have hself : ¬ (r0.e = (i : Int) ∧ r0.t = (j : Int)) := by
    rintro ⟨e1, e2⟩
    rcases (hs _ _ _ hr0).2 with h1 | ⟨y, _, _, h2⟩
    · omega
    · rw [e1, e2] at h2; omega
  have hpne : ¬ ((p.1 : Int) = i ∧ (p.2 : Int) = j) := fun e => hp (Prod.ext (by omega) (by omega))
  constructor
  · intro h
    have hne : q ≠ (i, j) := by
      rintro rfl
      obtain ⟨r, hr⟩ := h.at'
      rw [hd.2, if_pos ⟨rfl, rfl⟩] at hr; cases hr
    refine ⟨?_, hne⟩
    clear hne
    induction h with
    | @child a b x h1 h2 h3 =>
      rw [hd.2] at h1
      split at h1
      · cases h1
      · obtain ⟨y, hy, rfl⟩ := Option.map_eq_some_iff.1 h1
        unfold rp at h2 h3
        split at h2
        · rename_i e
          rw [if_pos e] at h3
          exact .step (.child hr0 h2 h3) hy e.1 e.2
        · rename_i e
          rw [if_neg e] at h3
          exact .child hy h2 h3
    | @step q' a b x hq h1 h2 h3 ih =>
      rw [hd.2] at h1
      split at h1
      · cases h1
      · obtain ⟨y, hy, rfl⟩ := Option.map_eq_some_iff.1 h1
        unfold rp at h2 h3
        split at h2
        · rename_i e
          rw [if_pos e] at h3
          exact .step (.step ih hr0 h2 h3) hy e.1 e.2
        · rename_i e
          rw [if_neg e] at h3
          exact .step ih hy h2 h3
  · rintro ⟨h, hne⟩
    have key : (q ≠ (i, j) → Desc bk' p q) ∧ (q = (i, j) → (r0.e = (p.1 : Int) ∧ r0.t = (p.2 : Int)) ∨ ∃ q', Desc bk' p q' ∧ r0.e = (q'.1 : Int) ∧ r0.t = (q'.2 : Int)) := by
      clear hne
      induction h with
      | @child a b x h1 h2 h3 =>
        refine ⟨fun hne => ?_, fun e => ?_⟩
        · refine .child (r := x) ?_ h2 h3
          rw [hd.2, if_neg (fun e => hne (Prod.ext e.1 e.2)), h1]
          simp only [Option.map_some, rp]
          rw [if_neg (fun e => hpne ⟨by rw [← h2]; exact e.1, by rw [← h3]; exact e.2⟩)]
        · cases e
          rw [hr0] at h1; cases h1
          exact .inl ⟨h2, h3⟩
      | @step q' a b x hq h1 h2 h3 ih =>
        refine ⟨fun hne => ?_, fun e => ?_⟩
        · have hat : atB bk' (a : Int) (b : Int) = some (rp i j r0 x) := by rw [hd.2, if_neg (fun e => hne (Prod.ext e.1 e.2)), h1]; rfl
          by_cases e : x.e = (i : Int) ∧ x.t = (j : Int)
          · have er : rp i j r0 x = rq r0.e r0.t x := by unfold rp; rw [if_pos e]
            rw [er] at hat
            have hq' : q' = (i, j) := Prod.ext (by have := e.1; omega) (by have := e.2; omega)
            rcases ih.2 hq' with h5 | ⟨q2, h5, h6, h7⟩
            · exact .child hat h5.1 h5.2
            · exact .step h5 hat h6 h7
          · have er : rp i j r0 x = x := by unfold rp; rw [if_neg e]
            rw [er] at hat
            refine .step (ih.1 (fun e' => e ?_)) hat h2 h3
            rw [e'] at h2 h3
            exact ⟨h2, h3⟩
        · cases e
          rw [hr0] at h1; cases h1
          refine .inr ⟨q', ih.1 (fun e' => hself ?_), h2, h3⟩
          rw [e'] at h2 h3
          exact ⟨h2, h3⟩
    exact key.1 hne
theorem desc_drops {bk bk' : List (Option Lst)} {f : Int → Int → Nat} {ps : List (Nat × Nat)} (hs : Snd bk f) (hd : Drops ps bk bk') {p : Nat × Nat} (hp : p ∉ ps) (q : Nat × Nat) : Desc bk' p q ↔ Desc bk p q ∧ q ∉ ps := by
  induction hd with
  | nil bk => simp
  | snoc h0 hr hd ih =>
    rename_i ps bk m bk' x r
    have ih' := ih hs (fun h => hp (by simp [h]))
    rw [desc_drop (hs.drops h0) hr hd (fun e => hp (by rw [e]; simp)), ih']
    simp only [List.mem_append, List.mem_cons, List.not_mem_nil, or_false, not_or]
    constructor
    · rintro ⟨⟨h1, h2⟩, h3⟩; exact ⟨h1, h2, h3⟩
    · rintro ⟨h1, h2, h3⟩; exact ⟨⟨h1, h2⟩, h3⟩
theorem desc_rmv {bk : List (Option Lst)} {ps : List (Nat × Nat)} (hn : ps.Nodup) (hex : ∀ p ∈ ps, ∃ r, atB bk (p.1 : Int) (p.2 : Int) = some r) (p q : Nat × Nat) : Desc (rmv bk ps) p q → Desc bk p q ∧ q ∉ ps := by
  obtain ⟨_, hat⟩ := rmv_at ps bk hn hex
  intro h
  refine ⟨desc_mono (fun a b r hr => ?_) h, fun hin => ?_⟩
  · rw [hat] at hr
    split at hr
    · cases hr
    · exact hr
  · obtain ⟨r, hr⟩ := h.at'
    rw [hat, if_pos hin] at hr; cases hr
theorem desc_rmv' {bk : List (Option Lst)} {ps : List (Nat × Nat)} (hn : ps.Nodup) (hex : ∀ p ∈ ps, ∃ r, atB bk (p.1 : Int) (p.2 : Int) = some r)
    (hcl : ∀ p ∈ ps, ∀ (a b : Nat) (r : Rc), atB bk (a : Int) (b : Int) = some r → r.e = (p.1 : Int) → r.t = (p.2 : Int) → (a, b) ∈ ps) {p q : Nat × Nat} (h : Desc bk p q) (hq : q ∉ ps) : Desc (rmv bk ps) p q := by
  obtain ⟨_, hat⟩ := rmv_at ps bk hn hex
  induction h with
  | child h1 h2 h3 => exact .child (by rw [hat, if_neg hq]; exact h1) h2 h3
  | @step q' a b r hq' h1 h2 h3 ih =>
    exact .step (ih (fun hin => hq (hcl _ hin _ _ _ h1 h2 h3))) (by rw [hat, if_neg hq]; exact h1) h2 h3
/-- a place among these -/
def isP (e s : Int) (q : Nat × Nat) : Bool := decide ((q.1 : Int) = e) && decide ((q.2 : Int) = s)
def cutM (M : List (Nat × Nat)) (e s : Int) : List (Nat × Nat) := match M.findIdx? (isP e s) with
  | some i => M.take i ++ M.drop (i + 1)
  | none => M
def cutAll (M : List (Nat × Nat)) (l : List Hd) : List (Nat × Nat) := l.foldl (fun m y => cutM m y.1 (y.2.1 : Int)) M
theorem isP_iff {e s : Int} {q : Nat × Nat} : isP e s q = true ↔ (q.1 : Int) = e ∧ (q.2 : Int) = s := by simp [isP]
theorem cutM_mem {M : List (Nat × Nat)} (h : M.Nodup) (e s : Int) (q : Nat × Nat) : q ∈ cutM M e s ↔ q ∈ M ∧ isP e s q = false := by
  unfold cutM
  cases hf : M.findIdx? (isP e s) with
  | none =>
    have := List.findIdx?_eq_none_iff.1 hf
    exact ⟨fun hq => ⟨hq, this q hq⟩, fun hq => hq.1⟩
  | some i =>
    obtain ⟨hi, hp, _⟩ := List.findIdx?_eq_some_iff_getElem.1 hf
    have hM : M = M.take i ++ M[i] :: M.drop (i + 1) := by rw [← List.drop_eq_getElem_cons hi, List.take_append_drop]
    have hu : ∀ x ∈ M, isP e s x = true → x = M[i] := fun x _ hx => by
      have h1 := isP_iff.1 hx
      have h2 := isP_iff.1 hp
      exact Prod.ext (by omega) (by omega)
    have hnd := h
    rw [hM, List.nodup_append, List.nodup_cons] at hnd
    obtain ⟨_, ⟨n1, _⟩, n3⟩ := hnd
    show q ∈ M.take i ++ M.drop (i + 1) ↔ _
    rw [List.mem_append]
    constructor
    · intro hq
      have hqM : q ∈ M := by rcases hq with hq | hq; exact List.mem_of_mem_take hq; exact List.mem_of_mem_drop hq
      refine ⟨hqM, ?_⟩
      cases hpq : isP e s q
      · rfl
      · have := hu q hqM hpq
        subst this
        rcases hq with hq | hq
        · exact (n3 _ hq _ List.mem_cons_self rfl).elim
        · exact (n1 hq).elim
    · rintro ⟨hq, hpq⟩
      rw [hM, List.mem_append, List.mem_cons] at hq
      rcases hq with hq | rfl | hq
      · exact .inl hq
      · rw [hp] at hpq; cases hpq
      · exact .inr hq
theorem cutM_nodup {M : List (Nat × Nat)} (h : M.Nodup) (e s : Int) : (cutM M e s).Nodup := by
  unfold cutM
  split
  · rename_i i _
    rw [← List.eraseIdx_eq_take_drop_succ]
    exact (List.eraseIdx_sublist M i).nodup h
  · exact h
theorem cutM_len (M : List (Nat × Nat)) (e s : Int) : (cutM M e s).length ≤ M.length := by
  unfold cutM
  split
  · rename_i i _
    rw [← List.eraseIdx_eq_take_drop_succ]
    exact (List.eraseIdx_sublist M i).length_le
  · exact Nat.le_refl _
theorem cutAll_all : ∀ (l : List Hd) {M : List (Nat × Nat)}, M.Nodup → (cutAll M l).Nodup ∧ (cutAll M l).length ≤ M.length ∧ ∀ q, q ∈ cutAll M l ↔ q ∈ M ∧ ∀ y ∈ l, isP y.1 (y.2.1 : Int) q = false
  | [], M, h => ⟨h, Nat.le_refl _, fun q => by simp [cutAll]⟩
  | y :: t, M, h => by
    obtain ⟨h1, h2, h3⟩ := cutAll_all t (M := cutM M y.1 (y.2.1 : Int)) (cutM_nodup h _ _)
    refine ⟨h1, Nat.le_trans h2 (cutM_len _ _ _), fun q => ?_⟩
    show q ∈ cutAll (cutM M y.1 (y.2.1 : Int)) t ↔ _
    rw [h3, cutM_mem h]
    simp only [List.mem_cons, forall_eq_or_imp]
    constructor
    · rintro ⟨⟨a, b⟩, c⟩; exact ⟨a, b, c⟩
    · rintro ⟨a, b, c⟩; exact ⟨⟨a, b⟩, c⟩
end Go.Proofs.Ytimfgjndgfjjgaa
