import Derived.BigQuiet
import Derived.WalkSmall
import Derived.Test.YtimfgjndgfjjgaaMZ
namespace Go.Proofs.Ytimfgjndgfjjgaa
open Go.RowKit Go.Shelf

/-- q came from p, directly or through others -/
def Desc (bk : List (Option Lst)) (p : Nat × Nat) : Nat × Nat → Prop := fun z0 => ∀ M : Nat × Nat → Prop, (∀ {a b : Nat} {r : Rc}, atB bk (a : Int) (b : Int) = some r → r.e = (p.1 : Int) → r.t = (p.2 : Int) → M (a, b)) → (∀ {q : Nat × Nat} {a b : Nat} {r : Rc}, M q → atB bk (a : Int) (b : Int) = some r → r.e = (q.1 : Int) → r.t = (q.2 : Int) → M (a, b)) → M z0
theorem Desc.child {bk : List (Option Lst)} {p : Nat × Nat} {a b : Nat} {r : Rc} (h0 : atB bk (a : Int) (b : Int) = some r) (h1 : r.e = (p.1 : Int)) (h2 : r.t = (p.2 : Int)) : Desc bk p (a, b) := fun _ c0 _ => c0 h0 h1 h2
theorem Desc.step {bk : List (Option Lst)} {p : Nat × Nat} {q : Nat × Nat} {a b : Nat} {r : Rc} (h0 : Desc bk p q) (h1 : atB bk (a : Int) (b : Int) = some r) (h2 : r.e = (q.1 : Int)) (h3 : r.t = (q.2 : Int)) : Desc bk p (a, b) := fun M c0 c1 => c1 (h0 M c0 c1) h1 h2 h3
theorem Desc.ind {bk : List (Option Lst)} {p : Nat × Nat} {motive : ∀ (z0 : Nat × Nat), Desc bk p z0 → Prop} (child : ∀ {a b : Nat} {r : Rc} (h0 : atB bk (a : Int) (b : Int) = some r) (h1 : r.e = (p.1 : Int)) (h2 : r.t = (p.2 : Int)), motive (a, b) (Desc.child h0 h1 h2)) (step : ∀ {q : Nat × Nat} {a b : Nat} {r : Rc} (h0 : Desc bk p q) (h1 : atB bk (a : Int) (b : Int) = some r) (h2 : r.e = (q.1 : Int)) (h3 : r.t = (q.2 : Int)) (_ : motive q h0), motive (a, b) (Desc.step h0 h1 h2 h3)) {z0 : Nat × Nat} (h : Desc bk p z0) : motive z0 h := by
  refine Exists.elim (h (fun z0 => ∃ h : Desc bk p z0, motive z0 h) ?_ ?_) (fun _ p => p)
  · rintro a b r h0 h1 h2; exact ⟨Desc.child h0 h1 h2, child h0 h1 h2⟩
  · rintro q a b r ⟨h0, ih0⟩ h1 h2 h3; exact ⟨Desc.step h0 h1 h2 h3, step h0 h1 h2 h3 ih0⟩
theorem Desc.at' {bk : List (Option Lst)} {p q : Nat × Nat} (h : Desc bk p q) : ∃ r, atB bk (q.1 : Int) (q.2 : Int) = some r := by
  cases h using Desc.ind with
  | child h1 => exact ⟨_, h1⟩
  | step _ h1 => exact ⟨_, h1⟩
theorem Desc.trans {bk : List (Option Lst)} {p q x : Nat × Nat} (h : Desc bk p q) (k : Desc bk q x) : Desc bk p x := by
  induction k using Desc.ind with
  | child h1 h2 h3 => exact .step h h1 h2 h3
  | step _ h1 h2 h3 ih => exact .step ih h1 h2 h3
theorem bel_desc {bk : List (Option Lst)} : ∀ (n : Nat) {p x : Nat × Nat}, x ∈ bel n bk p → Desc bk p x
  | 0, _, _, h => by cases h
  | n + 1, p, x, h => by
    obtain ⟨c, h1, h2⟩ := List.mem_flatMap.1 h
    obtain ⟨r, h3, h4⟩ := mem_pls.1 (show (c.1, c.2) ∈ _ from h1)
    simp only [chP, Bool.and_eq_true, decide_eq_true_eq] at h4
    have hc : Desc bk p c := .child h3 h4.1 h4.2
    rcases List.mem_cons.1 h2 with rfl | h2
    · exact hc
    · exact hc.trans (bel_desc n h2)
theorem desc_bel {bk : List (Option Lst)} {n : Nat} {p x : Nat × Nat} (hd : Dep n bk p) (h : Desc bk p x) : x ∈ bel n bk p := by
  induction h using Desc.ind with
  | child h1 h2 h3 =>
    cases n with
    | zero => exact hd.elim
    | succ n => exact List.mem_flatMap.2 ⟨_, mem_pls.2 ⟨_, h1, by simp [chP, h2, h3]⟩, List.mem_cons_self⟩
  | step _ h1 h2 h3 ih => exact bel_child n hd ih (mem_pls.2 ⟨_, h1, by simp [chP, h2, h3]⟩)
theorem desc_mono {bk bk' : List (Option Lst)} (hv : ∀ (a b : Nat) (r : Rc), atB bk (a : Int) (b : Int) = some r → atB bk' (a : Int) (b : Int) = some r) {p q : Nat × Nat} (h : Desc bk p q) : Desc bk' p q := by
  induction h using Desc.ind with
  | child h1 h2 h3 => exact .child (hv _ _ _ h1) h2 h3
  | step _ h1 h2 h3 ih => exact .step ih (hv _ _ _ h1) h2 h3
theorem desc_congr {bk bk' : List (Option Lst)} (hv : ∀ a b : Nat, atB bk' (a : Int) (b : Int) = atB bk (a : Int) (b : Int)) (p q : Nat × Nat) : Desc bk' p q ↔ Desc bk p q :=
  ⟨desc_mono (fun a b r h => by rw [← hv]; exact h), desc_mono (fun a b r h => by rw [hv]; exact h)⟩
/-- one more was laid -/
theorem desc_lay {bk bk' : List (Option Lst)} {f : Int → Int → Nat} (hs : Snd bk f) {i k : Nat} {r : Rc} (hf : atB bk (i : Int) (k : Int) = none) (hv : ∀ a b : Nat, atB bk' (a : Int) (b : Int) = if a = i ∧ b = k then some r else atB bk (a : Int) (b : Int))
    (hp : (r.e = -1 ∧ r.t = -1) ∨ ∃ p, atB bk r.e r.t = some p) (p q : Nat × Nat) :
    Desc bk' p q ↔ Desc bk p q ∨ (q = (i, k) ∧ ((r.e = (p.1 : Int) ∧ r.t = (p.2 : Int)) ∨ ∃ q', Desc bk p q' ∧ r.e = (q'.1 : Int) ∧ r.t = (q'.2 : Int))) := by
  have hno : ∀ {x : Rc} {a b : Nat}, atB bk (a : Int) (b : Int) = some x → ¬ (x.e = (i : Int) ∧ x.t = (k : Int)) := by
    intro x a b hx e
    rcases (hs _ _ _ hx).2 with h1 | ⟨y, h1, _⟩
    · omega
    · rw [e.1, e.2, hf] at h1; cases h1
  constructor
  · intro h
    induction h using Desc.ind with
    | @child a b x h1 h2 h3 =>
      rw [hv] at h1
      split at h1
      · rename_i e; cases h1; exact .inr ⟨Prod.ext e.1 e.2, .inl ⟨h2, h3⟩⟩
      · exact .inl (.child h1 h2 h3)
    | @step q' a b x hq h1 h2 h3 ih =>
      rw [hv] at h1
      split at h1
      · rename_i e
        cases h1
        rcases ih with ih | ⟨rfl, _⟩
        · exact .inr ⟨Prod.ext e.1 e.2, .inr ⟨q', ih, h2, h3⟩⟩
        · rcases hp with hp | ⟨y, hp⟩
          · omega
          · rw [h2, h3, hf] at hp; cases hp
      · rcases ih with ih | ⟨rfl, _⟩
        · exact .inl (.step ih h1 h2 h3)
        · exact (hno h1 ⟨h2, h3⟩).elim
  · have hm : ∀ {x y : Nat × Nat}, Desc bk x y → Desc bk' x y := desc_mono (fun a b x hx => by
      rw [hv, if_neg (fun e => by rw [e.1, e.2, hf] at hx; cases hx)]; exact hx)
    have hn : atB bk' (i : Int) (k : Int) = some r := by rw [hv, if_pos ⟨rfl, rfl⟩]
    rintro (h | ⟨rfl, h | ⟨q', h1, h2, h3⟩⟩)
    · exact hm h
    · exact .child hn h.1 h.2
    · exact .step (hm h1) hn h2 h3
/-- one was dropped -/
theorem desc_drop {bk bk' : List (Option Lst)} {f : Int → Int → Nat} (hs : Snd bk f) {i j : Nat} {r0 : Rc} (hr0 : atB bk (i : Int) (j : Int) = some r0) (hd : DropR bk i j r0 bk') {p : Nat × Nat} (hp : p ≠ (i, j)) (q : Nat × Nat) : Desc bk' p q ↔ Desc bk p q ∧ q ≠ (i, j) := by
  have hself : ¬ (r0.e = (i : Int) ∧ r0.t = (j : Int)) := by
    rintro ⟨e1, e2⟩
    rcases (hs _ _ _ hr0).2 with h1 | ⟨y, _, _, h2⟩
    · omega
    · rw [e1, e2] at h2; omega
  have hpne : ¬ ((p.1 : Int) = i ∧ (p.2 : Int) = j) := fun e => hp (Prod.ext (by omega) (by omega))
  constructor
  · intro h
    have hne : q ≠ (i, j) := by
      rintro rfl
      obtain ⟨r, hr⟩ := h.at'
      rw [hd.2, if_pos ⟨rfl, rfl⟩] at hr; cases hr
    refine ⟨?_, hne⟩
    clear hne
    induction h using Desc.ind with
    | @child a b x h1 h2 h3 =>
      rw [hd.2] at h1
      split at h1
      · cases h1
      · obtain ⟨y, hy, rfl⟩ := Option.map_eq_some_iff.1 h1
        unfold rp at h2 h3
        split at h2
        · rename_i e
          rw [if_pos e] at h3
          exact .step (.child hr0 h2 h3) hy e.1 e.2
        · rename_i e
          rw [if_neg e] at h3
          exact .child hy h2 h3
    | @step q' a b x hq h1 h2 h3 ih =>
      rw [hd.2] at h1
      split at h1
      · cases h1
      · obtain ⟨y, hy, rfl⟩ := Option.map_eq_some_iff.1 h1
        unfold rp at h2 h3
        split at h2
        · rename_i e
          rw [if_pos e] at h3
          exact .step (.step ih hr0 h2 h3) hy e.1 e.2
        · rename_i e
          rw [if_neg e] at h3
          exact .step ih hy h2 h3
  · rintro ⟨h, hne⟩
    have key : (q ≠ (i, j) → Desc bk' p q) ∧ (q = (i, j) → (r0.e = (p.1 : Int) ∧ r0.t = (p.2 : Int)) ∨ ∃ q', Desc bk' p q' ∧ r0.e = (q'.1 : Int) ∧ r0.t = (q'.2 : Int)) := by
      clear hne
      induction h using Desc.ind with
      | @child a b x h1 h2 h3 =>
        refine ⟨fun hne => ?_, fun e => ?_⟩
        · refine .child (r := x) ?_ h2 h3
          rw [hd.2, if_neg (fun e => hne (Prod.ext e.1 e.2)), h1]
          simp only [Option.map_some, rp]
          rw [if_neg (fun e => hpne ⟨by rw [← h2]; exact e.1, by rw [← h3]; exact e.2⟩)]
        · cases e
          rw [hr0] at h1; cases h1
          exact .inl ⟨h2, h3⟩
      | @step q' a b x hq h1 h2 h3 ih =>
        refine ⟨fun hne => ?_, fun e => ?_⟩
        · have hat : atB bk' (a : Int) (b : Int) = some (rp i j r0 x) := by rw [hd.2, if_neg (fun e => hne (Prod.ext e.1 e.2)), h1]; rfl
          by_cases e : x.e = (i : Int) ∧ x.t = (j : Int)
          · have er : rp i j r0 x = rq r0.e r0.t x := by unfold rp; rw [if_pos e]
            rw [er] at hat
            have hq' : q' = (i, j) := Prod.ext (by have := e.1; omega) (by have := e.2; omega)
            rcases ih.2 hq' with h5 | ⟨q2, h5, h6, h7⟩
            · exact .child hat h5.1 h5.2
            · exact .step h5 hat h6 h7
          · have er : rp i j r0 x = x := by unfold rp; rw [if_neg e]
            rw [er] at hat
            refine .step (ih.1 (fun e' => e ?_)) hat h2 h3
            rw [e'] at h2 h3
            exact ⟨h2, h3⟩
        · cases e
          rw [hr0] at h1; cases h1
          refine .inr ⟨q', ih.1 (fun e' => hself ?_), h2, h3⟩
          rw [e'] at h2 h3
          exact ⟨h2, h3⟩
    exact key.1 hne
theorem desc_drops {bk bk' : List (Option Lst)} {f : Int → Int → Nat} {ps : List (Nat × Nat)} (hs : Snd bk f) (hd : Drops ps bk bk') {p : Nat × Nat} (hp : p ∉ ps) (q : Nat × Nat) : Desc bk' p q ↔ Desc bk p q ∧ q ∉ ps := by
  induction hd using Drops.ind with
  | nil bk => simp
  | snoc h0 hr hd ih =>
    rename_i ps bk m bk' x r
    have ih' := ih hs (fun h => hp (by simp [h]))
    rw [desc_drop (hs.drops h0) hr hd (fun e => hp (by rw [e]; simp)), ih']
    simp only [List.mem_append, List.mem_cons, List.not_mem_nil, or_false, not_or]
    constructor
    · rintro ⟨⟨h1, h2⟩, h3⟩; exact ⟨h1, h2, h3⟩
    · rintro ⟨h1, h2, h3⟩; exact ⟨⟨h1, h2⟩, h3⟩
theorem desc_rmv {bk : List (Option Lst)} {ps : List (Nat × Nat)} (hn : ps.Nodup) (hex : ∀ p ∈ ps, ∃ r, atB bk (p.1 : Int) (p.2 : Int) = some r) (p q : Nat × Nat) : Desc (rmv bk ps) p q → Desc bk p q ∧ q ∉ ps := by
  obtain ⟨_, hat⟩ := rmv_at ps bk hn hex
  intro h
  refine ⟨desc_mono (fun a b r hr => ?_) h, fun hin => ?_⟩
  · rw [hat] at hr
    split at hr
    · cases hr
    · exact hr
  · obtain ⟨r, hr⟩ := h.at'
    rw [hat, if_pos hin] at hr; cases hr
theorem desc_rmv' {bk : List (Option Lst)} {ps : List (Nat × Nat)} (hn : ps.Nodup) (hex : ∀ p ∈ ps, ∃ r, atB bk (p.1 : Int) (p.2 : Int) = some r)
    (hcl : ∀ p ∈ ps, ∀ (a b : Nat) (r : Rc), atB bk (a : Int) (b : Int) = some r → r.e = (p.1 : Int) → r.t = (p.2 : Int) → (a, b) ∈ ps) {p q : Nat × Nat} (h : Desc bk p q) (hq : q ∉ ps) : Desc (rmv bk ps) p q := by
  obtain ⟨_, hat⟩ := rmv_at ps bk hn hex
  induction h using Desc.ind with
  | child h1 h2 h3 => exact .child (by rw [hat, if_neg hq]; exact h1) h2 h3
  | @step q' a b r hq' h1 h2 h3 ih =>
    exact .step (ih (fun hin => hq (hcl _ hin _ _ _ h1 h2 h3))) (by rw [hat, if_neg hq]; exact h1) h2 h3
/-- a place among these -/
def isP (e s : Int) (q : Nat × Nat) : Bool := decide ((q.1 : Int) = e) && decide ((q.2 : Int) = s)
def cutM (M : List (Nat × Nat)) (e s : Int) : List (Nat × Nat) := match M.findIdx? (isP e s) with
  | some i => M.take i ++ M.drop (i + 1)
  | none => M
def cutAll (M : List (Nat × Nat)) (l : List Hd) : List (Nat × Nat) := l.foldl (fun m y => cutM m y.1 (y.2.1 : Int)) M
theorem isP_iff {e s : Int} {q : Nat × Nat} : isP e s q = true ↔ (q.1 : Int) = e ∧ (q.2 : Int) = s := by simp [isP]
theorem cutM_mem {M : List (Nat × Nat)} (h : M.Nodup) (e s : Int) (q : Nat × Nat) : q ∈ cutM M e s ↔ q ∈ M ∧ isP e s q = false := by
  unfold cutM
  cases hf : M.findIdx? (isP e s) with
  | none =>
    have := List.findIdx?_eq_none_iff.1 hf
    exact ⟨fun hq => ⟨hq, this q hq⟩, fun hq => hq.1⟩
  | some i =>
    obtain ⟨hi, hp, _⟩ := List.findIdx?_eq_some_iff_getElem.1 hf
    have hM : M = M.take i ++ M[i] :: M.drop (i + 1) := by rw [← List.drop_eq_getElem_cons hi, List.take_append_drop]
    have hu : ∀ x ∈ M, isP e s x = true → x = M[i] := fun x _ hx => by
      have h1 := isP_iff.1 hx
      have h2 := isP_iff.1 hp
      exact Prod.ext (by omega) (by omega)
    have hnd := h
    rw [hM, List.nodup_append, List.nodup_cons] at hnd
    obtain ⟨_, ⟨n1, _⟩, n3⟩ := hnd
    show q ∈ M.take i ++ M.drop (i + 1) ↔ _
    rw [List.mem_append]
    constructor
    · intro hq
      have hqM : q ∈ M := by rcases hq with hq | hq; exact List.mem_of_mem_take hq; exact List.mem_of_mem_drop hq
      refine ⟨hqM, ?_⟩
      cases hpq : isP e s q
      · rfl
      · have := hu q hqM hpq
        subst this
        rcases hq with hq | hq
        · exact (n3 _ hq _ List.mem_cons_self rfl).elim
        · exact (n1 hq).elim
    · rintro ⟨hq, hpq⟩
      rw [hM, List.mem_append, List.mem_cons] at hq
      rcases hq with hq | rfl | hq
      · exact .inl hq
      · rw [hp] at hpq; cases hpq
      · exact .inr hq
theorem cutM_nodup {M : List (Nat × Nat)} (h : M.Nodup) (e s : Int) : (cutM M e s).Nodup := by
  unfold cutM
  split
  · rename_i i _
    rw [← List.eraseIdx_eq_take_drop_succ]
    exact (List.eraseIdx_sublist M i).nodup h
  · exact h
theorem cutM_len (M : List (Nat × Nat)) (e s : Int) : (cutM M e s).length ≤ M.length := by
  unfold cutM
  split
  · rename_i i _
    rw [← List.eraseIdx_eq_take_drop_succ]
    exact (List.eraseIdx_sublist M i).length_le
  · exact Nat.le_refl _
theorem cutAll_all : ∀ (l : List Hd) {M : List (Nat × Nat)}, M.Nodup → (cutAll M l).Nodup ∧ (cutAll M l).length ≤ M.length ∧ ∀ q, q ∈ cutAll M l ↔ q ∈ M ∧ ∀ y ∈ l, isP y.1 (y.2.1 : Int) q = false
  | [], M, h => ⟨h, Nat.le_refl _, fun q => by simp [cutAll]⟩
  | y :: t, M, h => by
    obtain ⟨h1, h2, h3⟩ := cutAll_all t (M := cutM M y.1 (y.2.1 : Int)) (cutM_nodup h _ _)
    refine ⟨h1, Nat.le_trans h2 (cutM_len _ _ _), fun q => ?_⟩
    show q ∈ cutAll (cutM M y.1 (y.2.1 : Int)) t ↔ _
    rw [h3, cutM_mem h]
    simp only [List.mem_cons, forall_eq_or_imp]
    constructor
    · rintro ⟨⟨a, b⟩, c⟩; exact ⟨a, b, c⟩
    · rintro ⟨a, b, c⟩; exact ⟨⟨a, b⟩, c⟩
end Go.Proofs.Ytimfgjndgfjjgaa

namespace Go.Proofs.Ytimfgjndgfjjgaa
open Go.RowKit Go.Shelf

def heldOf (bk : List (Option Lst)) (ps : List (Nat × Nat)) : List Hd := ps.map (fun p => ((p.1 : Int), (p.2, (atB bk (p.1 : Int) (p.2 : Int)).getD Rc.zero)))
theorem encT_held {bk : List (Option Lst)} {ps : List (Nat × Nat)} (h : ∀ p ∈ ps, ∃ r, atB bk (p.1 : Int) (p.2 : Int) = some r) : encT bk ps = encA (heldOf bk ps) :=
  encT_of (R := fun p => (atB bk (p.1 : Int) (p.2 : Int)).getD Rc.zero) (fun p hp => by obtain ⟨r, hr⟩ := h p hp; rw [hr]; rfl)
theorem heldOf_not {bk : List (Option Lst)} {ps : List (Nat × Nat)} {q : Nat × Nat} : (∀ y ∈ heldOf bk ps, isP y.1 (y.2.1 : Int) q = false) ↔ q ∉ ps := by
  constructor
  · intro h hq
    have := h _ (List.mem_map.2 ⟨q, hq, rfl⟩)
    simp [isP] at this
  · intro h y hy
    obtain ⟨p, hp, rfl⟩ := List.mem_map.1 hy
    cases hq : isP (p.1 : Int) (p.2 : Int) q
    · rfl
    · have := isP_iff.1 hq
      exact (h (by rw [show q = p from Prod.ext (by omega) (by omega)]; exact hp)).elim
theorem kept_not {i : Nat} {xs : List (Nat × Rc)} {q : Nat × Nat} : (∀ y ∈ xs.map (fun x => ((i : Int), x)), isP y.1 (y.2.1 : Int) q = false) ↔ q ∉ plc i xs := by
  constructor
  · intro h hq
    obtain ⟨x, hx, rfl⟩ := List.mem_map.1 hq
    have := h _ (List.mem_map.2 ⟨x, hx, rfl⟩)
    simp [isP] at this
  · intro h y hy
    obtain ⟨x, hx, rfl⟩ := List.mem_map.1 hy
    cases hq : isP (i : Int) (x.1 : Int) q
    · rfl
    · have := isP_iff.1 hq
      exact (h (List.mem_map.2 ⟨x, hx, Prod.ext (by show i = q.1; omega) (by show x.1 = q.2; omega)⟩)).elim
/-- the watched one, or a marked one -/
def Mk (M : List (Nat × Nat)) (e s : Int) : Prop := (e = 1 ∧ s = 40) ∨ ∃ q ∈ M, isP e s q = true
/-- what follow does -/
def Fol (o : Opr) (bk : List (Option Lst)) (M : List (Nat × Nat)) : List (Option Lst) → List (Nat × Nat) → Prop := fun z0 z1 => ∀ Rl : List (Option Lst) → List (Nat × Nat) → Prop, (∀ {v c : Int} {bk' : List (Option Lst)}, o.q = 4 → DeriveR bk o.e o.s o.t o.a o.r v c bk' → (c = 0 → ¬ Mk M o.e o.s) → Rl bk' M) → (∀ {v : Int} {i k : Nat} {bk' : List (Option Lst)}, o.q = 4 → DeriveR bk o.e o.s o.t o.a o.r v 0 bk' → o.t = i → v = k → Mk M o.e o.s → Rl bk' (M ++ [(i, k)])) → (o.q = 5 → atB bk o.e o.s = none → Rl bk M) → (∀ {i j : Nat} {r : Rc} {bk' : List (Option Lst)}, o.q = 5 → o.e = i → o.s = j → atB bk (i : Int) (j : Int) = some r → DropR bk i j r bk' → Rl bk' (cutM M i j)) → (o.q = 6 → atB bk o.e o.s = none → Rl bk M) → (∀ {i j : Nat} {r : Rc} {n : Nat} {ps : List (Nat × Nat)}, o.q = 6 → o.e = i → o.s = j → atB bk (i : Int) (j : Int) = some r → Dep n bk (i, j) → List.Perm ps (bel n bk (i, j)) → Rl (rmv bk ps) (cutAll M (heldOf bk ps))) → (o.q = 2 → look bk o.e = none → Rl bk M) → (∀ {i : Nat} {l : Lst} {bk' : List (Option Lst)}, o.q = 2 → o.e = i → bk[i]? = some (some l) → Drops (plc i (prs l 0)) bk bk' → Rl (bk'.set i none) (cutAll M ((prs l 0).map (fun x => ((i : Int), x))))) → (∀ {bk' : List (Option Lst)}, o.q ≠ 2 → o.q ≠ 4 → o.q ≠ 5 → o.q ≠ 6 → Step o bk bk' → Rl bk' M) → Rl z0 z1
theorem Fol.derive0 {o : Opr} {bk : List (Option Lst)} {M : List (Nat × Nat)} {v c : Int} {bk' : List (Option Lst)} (h0 : o.q = 4) (h1 : DeriveR bk o.e o.s o.t o.a o.r v c bk') (h2 : (c = 0 → ¬ Mk M o.e o.s)) : Fol o bk M bk' M := fun _ c0 _ _ _ _ _ _ _ _ => c0 h0 h1 h2
theorem Fol.derive {o : Opr} {bk : List (Option Lst)} {M : List (Nat × Nat)} {v : Int} {i k : Nat} {bk' : List (Option Lst)} (h0 : o.q = 4) (h1 : DeriveR bk o.e o.s o.t o.a o.r v 0 bk') (h2 : o.t = i) (h3 : v = k) (h4 : Mk M o.e o.s) : Fol o bk M bk' (M ++ [(i, k)]) := fun _ _ c1 _ _ _ _ _ _ _ => c1 h0 h1 h2 h3 h4
theorem Fol.drop0 {o : Opr} {bk : List (Option Lst)} {M : List (Nat × Nat)} (h0 : o.q = 5) (h1 : atB bk o.e o.s = none) : Fol o bk M bk M := fun _ _ _ c2 _ _ _ _ _ _ => c2 h0 h1
theorem Fol.drop {o : Opr} {bk : List (Option Lst)} {M : List (Nat × Nat)} {i j : Nat} {r : Rc} {bk' : List (Option Lst)} (h0 : o.q = 5) (h1 : o.e = i) (h2 : o.s = j) (h3 : atB bk (i : Int) (j : Int) = some r) (h4 : DropR bk i j r bk') : Fol o bk M bk' (cutM M i j) := fun _ _ _ _ c3 _ _ _ _ _ => c3 h0 h1 h2 h3 h4
theorem Fol.revoke0 {o : Opr} {bk : List (Option Lst)} {M : List (Nat × Nat)} (h0 : o.q = 6) (h1 : atB bk o.e o.s = none) : Fol o bk M bk M := fun _ _ _ _ _ c4 _ _ _ _ => c4 h0 h1
theorem Fol.revoke {o : Opr} {bk : List (Option Lst)} {M : List (Nat × Nat)} {i j : Nat} {r : Rc} {n : Nat} {ps : List (Nat × Nat)} (h0 : o.q = 6) (h1 : o.e = i) (h2 : o.s = j) (h3 : atB bk (i : Int) (j : Int) = some r) (h4 : Dep n bk (i, j)) (h5 : List.Perm ps (bel n bk (i, j))) : Fol o bk M (rmv bk ps) (cutAll M (heldOf bk ps)) := fun _ _ _ _ _ _ c5 _ _ _ => c5 h0 h1 h2 h3 h4 h5
theorem Fol.shut0 {o : Opr} {bk : List (Option Lst)} {M : List (Nat × Nat)} (h0 : o.q = 2) (h1 : look bk o.e = none) : Fol o bk M bk M := fun _ _ _ _ _ _ _ c6 _ _ => c6 h0 h1
theorem Fol.shut {o : Opr} {bk : List (Option Lst)} {M : List (Nat × Nat)} {i : Nat} {l : Lst} {bk' : List (Option Lst)} (h0 : o.q = 2) (h1 : o.e = i) (h2 : bk[i]? = some (some l)) (h3 : Drops (plc i (prs l 0)) bk bk') : Fol o bk M (bk'.set i none) (cutAll M ((prs l 0).map (fun x => ((i : Int), x)))) := fun _ _ _ _ _ _ _ _ c7 _ => c7 h0 h1 h2 h3
theorem Fol.other {o : Opr} {bk : List (Option Lst)} {M : List (Nat × Nat)} {bk' : List (Option Lst)} (h0 : o.q ≠ 2) (h1 : o.q ≠ 4) (h2 : o.q ≠ 5) (h3 : o.q ≠ 6) (h4 : Step o bk bk') : Fol o bk M bk' M := fun _ _ _ _ _ _ _ _ _ c8 => c8 h0 h1 h2 h3 h4
theorem Fol.ind {o : Opr} {bk : List (Option Lst)} {M : List (Nat × Nat)} {motive : ∀ (z0 : List (Option Lst)) (z1 : List (Nat × Nat)), Fol o bk M z0 z1 → Prop} (derive0 : ∀ {v c : Int} {bk' : List (Option Lst)} (h0 : o.q = 4) (h1 : DeriveR bk o.e o.s o.t o.a o.r v c bk') (h2 : (c = 0 → ¬ Mk M o.e o.s)), motive bk' M (Fol.derive0 h0 h1 h2)) (derive : ∀ {v : Int} {i k : Nat} {bk' : List (Option Lst)} (h0 : o.q = 4) (h1 : DeriveR bk o.e o.s o.t o.a o.r v 0 bk') (h2 : o.t = i) (h3 : v = k) (h4 : Mk M o.e o.s), motive bk' (M ++ [(i, k)]) (Fol.derive h0 h1 h2 h3 h4)) (drop0 : ∀ (h0 : o.q = 5) (h1 : atB bk o.e o.s = none), motive bk M (Fol.drop0 h0 h1)) (drop : ∀ {i j : Nat} {r : Rc} {bk' : List (Option Lst)} (h0 : o.q = 5) (h1 : o.e = i) (h2 : o.s = j) (h3 : atB bk (i : Int) (j : Int) = some r) (h4 : DropR bk i j r bk'), motive bk' (cutM M i j) (Fol.drop h0 h1 h2 h3 h4)) (revoke0 : ∀ (h0 : o.q = 6) (h1 : atB bk o.e o.s = none), motive bk M (Fol.revoke0 h0 h1)) (revoke : ∀ {i j : Nat} {r : Rc} {n : Nat} {ps : List (Nat × Nat)} (h0 : o.q = 6) (h1 : o.e = i) (h2 : o.s = j) (h3 : atB bk (i : Int) (j : Int) = some r) (h4 : Dep n bk (i, j)) (h5 : List.Perm ps (bel n bk (i, j))), motive (rmv bk ps) (cutAll M (heldOf bk ps)) (Fol.revoke h0 h1 h2 h3 h4 h5)) (shut0 : ∀ (h0 : o.q = 2) (h1 : look bk o.e = none), motive bk M (Fol.shut0 h0 h1)) (shut : ∀ {i : Nat} {l : Lst} {bk' : List (Option Lst)} (h0 : o.q = 2) (h1 : o.e = i) (h2 : bk[i]? = some (some l)) (h3 : Drops (plc i (prs l 0)) bk bk'), motive (bk'.set i none) (cutAll M ((prs l 0).map (fun x => ((i : Int), x)))) (Fol.shut h0 h1 h2 h3)) (other : ∀ {bk' : List (Option Lst)} (h0 : o.q ≠ 2) (h1 : o.q ≠ 4) (h2 : o.q ≠ 5) (h3 : o.q ≠ 6) (h4 : Step o bk bk'), motive bk' M (Fol.other h0 h1 h2 h3 h4)) {z0 : List (Option Lst)} {z1 : List (Nat × Nat)} (h : Fol o bk M z0 z1) : motive z0 z1 h := by
  refine Exists.elim (h (fun z0 z1 => ∃ h : Fol o bk M z0 z1, motive z0 z1 h) ?_ ?_ ?_ ?_ ?_ ?_ ?_ ?_ ?_) (fun _ p => p)
  · rintro v c bk' h0 h1 h2; exact ⟨Fol.derive0 h0 h1 h2, derive0 h0 h1 h2⟩
  · rintro v i k bk' h0 h1 h2 h3 h4; exact ⟨Fol.derive h0 h1 h2 h3 h4, derive h0 h1 h2 h3 h4⟩
  · rintro h0 h1; exact ⟨Fol.drop0 h0 h1, drop0 h0 h1⟩
  · rintro i j r bk' h0 h1 h2 h3 h4; exact ⟨Fol.drop h0 h1 h2 h3 h4, drop h0 h1 h2 h3 h4⟩
  · rintro h0 h1; exact ⟨Fol.revoke0 h0 h1, revoke0 h0 h1⟩
  · rintro i j r n ps h0 h1 h2 h3 h4 h5; exact ⟨Fol.revoke h0 h1 h2 h3 h4 h5, revoke h0 h1 h2 h3 h4 h5⟩
  · rintro h0 h1; exact ⟨Fol.shut0 h0 h1, shut0 h0 h1⟩
  · rintro i l bk' h0 h1 h2 h3; exact ⟨Fol.shut h0 h1 h2 h3, shut h0 h1 h2 h3⟩
  · rintro bk' h0 h1 h2 h3 h4; exact ⟨Fol.other h0 h1 h2 h3 h4, other h0 h1 h2 h3 h4⟩
/-- the marks are just those that came from the watched one -/
structure MInv (bk : List (Option Lst)) (M : List (Nat × Nat)) : Prop where
  snd : ∃ f, Snd bk f
  nd : M.Nodup
  mem : ∀ q, q ∈ M ↔ Desc bk (1, 40) q
theorem lcode_ne {bk : List (Option Lst)} {e s : Int} (h : atB bk e s = none) : lcode bk e s ≠ 0 := by
  unfold atB at h
  cases hl : look bk e with
  | none => rw [(lcode_closed (s := s) hl).1]; decide
  | some l =>
    rw [hl] at h
    rw [(lcode_free hl h).1]; decide
theorem derive_lay {bk bk' : List (Option Lst)} {e s t a rt v : Int} (h48 : ∀ (i : Nat) (l : Lst), bk[i]? = some (some l) → l.length = 48) (hm : DeriveR bk e s t a rt v 0 bk') :
    ∃ (i k : Nat) (p : Rc), t = i ∧ v = k ∧ atB bk e s = some p ∧ okR rt p = true ∧ 0 ≤ rt ∧ rt ≤ 15 ∧ Shape bk bk' ∧ atB bk (i : Int) (k : Int) = none ∧ ∀ x y : Nat, atB bk' (x : Int) (y : Int) = if x = i ∧ y = k then some ⟨p.k, p.o, p.s, rt, e, s⟩ else atB bk (x : Int) (y : Int) := by
  rcases hm with ⟨_, _, h, _⟩ | ⟨_, h1, _, h, _⟩ | ⟨_, _, _, _, h, _⟩ | ⟨_, _, _, _, _, h, _⟩ | ⟨i, l, l', r, hi, hl, hr, hok, _, hrt, hy, rfl⟩
  · omega
  · exact (lcode_ne h1 h.symm).elim
  · omega
  · omega
  · rcases lay_view hl (h48 i l hl) hy with ⟨k, _, hv, _, hf, _, _, hsh, hvw⟩ | ⟨_, h, _⟩
    · exact ⟨i, k, r, hi, hv, hr, hok, hrt.1, hrt.2, hsh, hf, hvw⟩
    · exact (h rfl).elim
theorem derive_no {bk bk' : List (Option Lst)} {e s t a rt v c : Int} (h48 : ∀ (i : Nat) (l : Lst), bk[i]? = some (some l) → l.length = 48) (hm : DeriveR bk e s t a rt v c bk') (hc : c ≠ 0) : bk' = bk := by
  rcases hm with ⟨_, _, _, rfl⟩ | ⟨_, _, _, _, rfl⟩ | ⟨_, _, _, _, _, rfl⟩ | ⟨_, _, _, _, _, _, rfl⟩ | ⟨i, l, l', r, hi, hl, hr, hok, _, hrt, hy, rfl⟩
  · rfl
  · rfl
  · rfl
  · rfl
  · rcases lay_view hl (h48 i l hl) hy with ⟨k, _, _, h, _⟩ | ⟨_, _, e, _⟩
    · exact (hc h).elim
    · exact e
theorem MInv.same {bk bk' : List (Option Lst)} {M : List (Nat × Nat)} (h : MInv bk M) (hs : ∃ f, Snd bk' f) (hd : ∀ q, Desc bk' (1, 40) q ↔ Desc bk (1, 40) q) : MInv bk' M := ⟨hs, h.nd, fun q => (h.mem q).trans (hd q).symm⟩
theorem Fol.inv {o : Opr} {bk bk' : List (Option Lst)} {M M' : List (Nat × Nat)} (h : MInv bk M) (h48 : ∀ (i : Nat) (l : Lst), bk[i]? = some (some l) → l.length = 48) (hop : (look bk 1).isSome = true) (hF : Fol o bk M bk' M') (x7 : o.q ≠ 7) (x5 : ¬ (o.q = 5 ∧ o.e = 1 ∧ o.s = 40)) (x2 : ¬ (o.q = 2 ∧ o.e = 1)) :
    (look bk' 1).isSome = true ∧ ((∃ r, atB bk' 1 40 = some r) → MInv bk' M') ∧ M'.length ≤ M.length + 1 := by
  obtain ⟨f, hf⟩ := h.snd
  cases hF using Fol.ind with
  | @derive0 v c bk' hq hD hM =>
    by_cases hc : c = 0
    · subst hc
      obtain ⟨i, k, p, e1, e2, hp, hok, r0, r1, hsh, hfr, hv⟩ := derive_lay h48 hD
      refine ⟨(hsh 1).trans hop, fun _ => h.same ((Step.derive hq hD).snd hf h48) fun q => ?_, by omega⟩
      rw [desc_lay hf hfr hv (.inr ⟨p, hp⟩)]
      constructor
      · rintro (h1 | ⟨_, h1 | ⟨q', h1, h2, h3⟩⟩)
        · exact h1
        · exact (hM rfl (.inl h1)).elim
        · exact (hM rfl (.inr ⟨q', (h.mem q').2 h1, isP_iff.2 ⟨h2.symm, h3.symm⟩⟩)).elim
      · exact .inl
    · obtain rfl := derive_no h48 hD hc
      exact ⟨hop, fun _ => h, by omega⟩
  | @derive v i k bk' hq hD ht hk hM =>
    obtain ⟨i', k', p, e1, e2, hp, hok, r0, r1, hsh, hfr, hv⟩ := derive_lay h48 hD
    obtain rfl : i = i' := by omega
    obtain rfl : k = k' := by omega
    have hd := desc_lay hf hfr hv (.inr ⟨p, hp⟩) (1, 40)
    have hnew : (i, k) ∉ M := fun hin => by
      obtain ⟨r, hr⟩ := ((h.mem _).1 hin).at'
      rw [hfr] at hr; cases hr
    refine ⟨(hsh 1).trans hop, fun _ => ⟨(Step.derive hq hD).snd hf h48, ?_, fun q => ?_⟩, by simp⟩
    · rw [List.nodup_append]
      exact ⟨h.nd, by simp, fun a ha b hb e => by simp at hb; subst hb; subst e; exact hnew ha⟩
    · rw [hd, List.mem_append, h.mem]
      constructor
      · rintro (h1 | h1)
        · exact .inl h1
        · simp at h1
          refine .inr ⟨h1, ?_⟩
          rcases hM with hM | ⟨q', h2, h3⟩
          · exact .inl hM
          · have := isP_iff.1 h3
            exact .inr ⟨q', (h.mem q').1 h2, this.1.symm, this.2.symm⟩
      · rintro (h1 | ⟨h1, _⟩)
        · exact .inl h1
        · exact .inr (by simp [h1])
  | drop0 => exact ⟨hop, fun _ => h, by omega⟩
  | @drop i j r bk' hq he hs hr hD =>
    have hne : ((1, 40) : Nat × Nat) ≠ (i, j) := fun e => by
      cases e
      exact x5 ⟨hq, he, hs⟩
    refine ⟨(hD.1 1).trans hop, fun _ => ⟨⟨f, hf.drop hr hD⟩, cutM_nodup h.nd _ _, fun q => ?_⟩, by have := cutM_len M i j; omega⟩
    rw [cutM_mem h.nd, desc_drop hf hr hD hne, h.mem]
    constructor
    · rintro ⟨h1, h2⟩
      refine ⟨h1, fun e => ?_⟩
      subst e
      simp [isP] at h2
    · rintro ⟨h1, h2⟩
      refine ⟨h1, ?_⟩
      cases hp : isP (i : Int) (j : Int) q
      · rfl
      · have := isP_iff.1 hp
        exact (h2 (Prod.ext (by omega) (by omega))).elim
  | revoke0 => exact ⟨hop, fun _ => h, by omega⟩
  | @revoke i j r n ps hq he hs hr hD hp =>
    have hnd := hp.nodup_iff.2 (bel_nodup hf.rk n (i, j))
    have hex : ∀ p ∈ ps, ∃ r, atB bk (p.1 : Int) (p.2 : Int) = some r := fun p hq => bel_mem n (hp.mem_iff.1 hq)
    have hcl : ∀ p ∈ ps, ∀ (a b : Nat) (r : Rc), atB bk (a : Int) (b : Int) = some r → r.e = (p.1 : Int) → r.t = (p.2 : Int) → (a, b) ∈ ps := fun p hq a b r hr e1 e2 =>
      hp.mem_iff.2 (bel_child n hD (hp.mem_iff.1 hq) (mem_pls.2 ⟨r, hr, by simp [chP, e1, e2]⟩))
    obtain ⟨c1, c2, c3⟩ := cutAll_all (heldOf bk ps) h.nd
    refine ⟨((rmv_at ps bk hnd hex).1 1).trans hop, fun _ => ⟨⟨f, hf.revoke hD hp⟩, c1, fun q => ?_⟩, by omega⟩
    rw [c3, heldOf_not, h.mem]
    exact ⟨fun hh => desc_rmv' hnd hex hcl hh.1 hh.2, fun hh => desc_rmv hnd hex _ _ hh⟩
  | shut0 => exact ⟨hop, fun _ => h, by omega⟩
  | @shut i l bk' hq he hl hD =>
    have hi : i ≠ 1 := fun e => x2 ⟨hq, by rw [he, e]; rfl⟩
    obtain ⟨c1, c2, c3⟩ := cutAll_all ((prs l 0).map (fun x => ((i : Int), x))) h.nd
    have hnin : ((1, 40) : Nat × Nat) ∉ plc i (prs l 0) := fun hin => by
      obtain ⟨x, _, e⟩ := List.mem_map.1 hin
      exact hi (congrArg Prod.fst e)
    refine ⟨?_, fun _ => ⟨⟨f, (hf.drops hD).congr (shut_view hl hD)⟩, c1, fun q => ?_⟩, by omega⟩
    · have h1 := (hD.here.1 1).trans hop
      rw [show (1 : Int) = ((1 : Nat) : Int) from rfl, look_nat] at h1 ⊢
      rw [List.getElem?_set_ne hi]; exact h1
    · rw [c3, kept_not, desc_congr (shut_view hl hD), desc_drops hf hD hnin, h.mem]
  | @other bk' n2 n4 n5 n6 hS =>
    have hS' := hS
    cases hS using Step.ind with
    | none => exact ⟨hop, fun _ => h, by omega⟩
    | opn hq ho =>
      have ho' := ho
      rcases ho with ⟨k, hk, h1, rfl, rfl⟩ | ⟨_, rfl, _⟩
      · rw [hk] at ho'
        obtain ⟨_, v1, v2⟩ := open_view (List.getElem?_eq_some_iff.1 h1).1 (by rw [look_nat, h1]; rfl) ho'
        refine ⟨?_, fun _ => h.same (hS'.snd hf h48) fun q => desc_congr v1 _ _, by omega⟩
        have := v2 1
        rw [show ((1 : Nat) : Int) = 1 from rfl] at this
        rw [this, hop]; rfl
      · exact ⟨hop, fun _ => h, by omega⟩
    | shut0 hq => exact (n2 hq).elim
    | shut hq => exact (n2 hq).elim
    | mint hq hm =>
      rcases hm with ⟨_, _, _, rfl⟩ | ⟨_, _, _, _, rfl⟩ | ⟨i, l, l', _, hl, _, hb, hy, rfl⟩
      · exact ⟨hop, fun _ => h, by omega⟩
      · exact ⟨hop, fun _ => h, by omega⟩
      · rcases lay_view hl (h48 i l hl) hy with ⟨k, _, _, _, hfr, _, _, hsh, hv⟩ | ⟨_, _, e, _⟩
        · refine ⟨(hsh 1).trans hop, fun _ => h.same (hS'.snd hf h48) fun q => ?_, by omega⟩
          rw [desc_lay hf hfr hv (.inl ⟨rfl, rfl⟩)]
          constructor
          · rintro (h1 | ⟨_, h1 | ⟨q', _, h2, _⟩⟩)
            · exact h1
            · have := h1.1; simp at this
            · have h2' : (-1 : Int) = (q'.1 : Int) := h2; omega
          · exact .inl
        · rw [e]; exact ⟨hop, fun _ => h, by omega⟩
    | derive hq => exact (n4 hq).elim
    | drop0 hq => exact (n5 hq).elim
    | drop hq => exact (n5 hq).elim
    | revoke0 hq => exact (n6 hq).elim
    | revoke hq => exact (n6 hq).elim
    | purge hq => exact (x7 hq).elim
end Go.Proofs.Ytimfgjndgfjjgaa

namespace Go.Proofs.Ytimfgjndgfjjgaa
open Go.RowKit Go.Shelf

/-- a row of places, with room behind it or not -/
def PR (wr : World) (v : Value) (M : List (Nat × Nat)) : Prop :=
  (v = .slice none 0 0 ∧ M = []) ∨ ∃ g cap cur, v = .slice (some ⟨g, 0, none⟩) M.length cap ∧ wr.heap[g]? = some (.cells cur 28 (0, 0)) ∧ M.length ≤ cap ∧ cap ≤ maxLen ∧ cap * 2 ≤ cur.size ∧
    ∀ k (hk : k < M.length), cur[k * 2]? = some (.int .i64 (M[k].1 : Int)) ∧ cur[k * 2 + 1]? = some (.int .i64 (M[k].2 : Int))
theorem PR.len {wr : World} {v : Value} {M : List (Nat × Nat)} (h : PR wr v M) : ∃ a c, v = .slice a M.length c := by
  rcases h with ⟨rfl, rfl⟩ | ⟨g, cap, cur, rfl, _⟩
  · exact ⟨_, _, rfl⟩
  · exact ⟨_, _, rfl⟩
theorem PR.keep {w w' : World} {v : Value} {M : List (Nat × Nat)} (h : PR w v M) (hk : ∀ g, v.ownBlock = some g → w'.heap[g]? = w.heap[g]?) : PR w' v M := by
  rcases h with h | ⟨g, cap, cur, rfl, h1, h2⟩
  · exact .inl h
  · exact .inr ⟨g, cap, cur, rfl, (hk g rfl).trans h1, h2⟩
theorem PR.lt {w : World} {v : Value} {M : List (Nat × Nat)} (h : PR w v M) : ∀ g, v.ownBlock = some g → g < w.heap.size := by
  rcases h with ⟨rfl, _⟩ | ⟨g, cap, cur, rfl, h1, _⟩
  · intro g hg; cases hg
  · intro g' hg; cases hg; exact (Array.getElem?_eq_some_iff.1 h1).1
def ixM (M : List (Nat × Nat)) (e s : Int) : Int := match M.findIdx? (isP e s) with
  | some i => (i : Int)
  | none => -1
theorem isP_val {e s : Int} {q : Nat × Nat} : isP e s q = (decide ((q.1 : Int) = e) && decide ((q.2 : Int) = s)) := rfl
set_option maxRecDepth 8000 in
set_option maxHeartbeats 4000000 in
theorem at_any (w : World) (Mb : Nat) (v : Value) (M : List (Nat × Nat)) (hm : w.heap[Mb]? = some (.cells #[v] 65 (0, 0))) (hp : PR w v M) (hn : M.length ≤ 2000) (e s : Int) :
    Calls Try.prog 27 #[.pointer (some ⟨Mb, 0, none⟩), .agg #[.int .i64 e, .int .i64 s]] w fun x w' => x = .returned (.int .i64 (ixM M e s)) ∧ Below w.heap.size w w' := by
  obtain ⟨L, hL⟩ : ∃ L, M.length = L := ⟨_, rfl⟩
  obtain ⟨a, c, rfl⟩ := hp.len
  obtain ⟨W, hW⟩ : ∃ W, W = w.alloc (.cells #[.int .i64 e, .int .i64 s] 28) := ⟨_, rfl⟩
  have hb0 := ((Below.refl w.heap.size w).alloc (Nat.le_refl _) (.cells #[.int .i64 e, .int .i64 s] 28))
  have hp0 := heap_alloc_new w (.cells #[.int .i64 e, .int .i64 s] 28)
  rw [← hW] at hb0 hp0
  have HW := hide hW
  have HC : Hid (∀ wr, Below W.heap.size W wr → Below w.heap.size w wr ∧ wr.heap[w.heap.size]? = some (.cells #[.int .i64 e, .int .i64 s] 28 (0, 0)) ∧ wr.cell? ⟨Mb, 0, none⟩ = some (.slice a L c) ∧ ∀ k (hk : k < M.length), ∃ g, a = some ⟨g, 0, none⟩ ∧ wr.cell? ⟨g, k * 2, none⟩ = some (.int .i64 (M[k].1 : Int)) ∧ wr.cell? ⟨g, k * 2 + 1, none⟩ = some (.int .i64 (M[k].2 : Int))) := by
    refine hide fun wr hbr => ?_
    have hbw := hb0.trans (hbr.mono hb0.size)
    refine ⟨hbw, (hbr.block _ (Array.getElem?_eq_some_iff.1 hp0).1).trans hp0, ?_, fun k hk => ?_⟩
    · rw [cell_of_row _ _ _ _ _ _ ((hbw.block Mb (Array.getElem?_eq_some_iff.1 hm).1).trans hm), ← hL]; rfl
    · rcases hp with ⟨_, rfl⟩ | ⟨g, cap, cur, hv, h1, _, _, _, h5⟩
      · cases hk
      · cases hv
        have hg := (hbw.block g (Array.getElem?_eq_some_iff.1 h1).1).trans h1
        exact ⟨g, rfl, by rw [cell_of_row _ _ _ _ _ _ hg]; exact (h5 k hk).1, by rw [cell_of_row _ _ _ _ _ _ hg]; exact (h5 k hk).2⟩
  clear hm hp hb0 hp0 hW
  rw [hL] at hn
  have HL := hide hL
  clear hL
  go_enter Try.func27, Try.ntmps27
  go_upto_region 1 with fail
  rw [← HW.out]
  go_wp2_with fail
  go_loopw [5] (fun x wr => ∃ k : Nat, k ≤ L ∧ x = .int .i64 (k : Int) ∧ Hid (∀ j (hj : j < M.length), j < k → isP e s M[j] = false) ∧ Hid (Below W.heap.size W wr)) (fun x _ => L - (intOf x).toNat)
  case atStart => exact ⟨0, by omega, rfl, hide (fun j hj h => by omega), Below.refl _ _⟩
  case round =>
  obtain ⟨k, hk, rfl, K1, K2⟩ := hrel
  obtain ⟨hbw, hp, hmc, hq⟩ := HC.out wr K2.out
  have HB := hide hbw
  have p0 : wr.cell? ⟨w.heap.size, 0, none⟩ = some (.int .i64 e) := by rw [cell_of_row _ _ _ _ _ _ hp]; rfl
  have p1 : wr.cell? ⟨w.heap.size, 1, none⟩ = some (.int .i64 s) := by rw [cell_of_row _ _ _ _ _ _ hp]; rfl
  clear hp hbw
  by_cases hlt : k < L
  · have hlt' : k < M.length := by rw [HL.out]; exact hlt
    obtain ⟨g, rfl, q0, q1⟩ := hq k (by first | exact hlt | exact hlt')
    clear hq
    have hkl : (k : Int) < (L : Int) := by omega
    have hwk : k * 2 + 1 < L * 2 := by omega
    have L2' := hide (fun n => below_drewN K2.out n)
    have HB2 := hide (fun n => below_drewN HB.out n)
    by_cases hP : isP e s M[k] = true
    · have HF : Hid (ixM M e s = (k : Int)) := by
        refine hide ?_
        unfold ixM
        rw [List.findIdx?_eq_some_iff_getElem.2 ⟨hlt', hP, fun j hj => by simp [K1.out j (by omega) hj]⟩]
      have hPP := isP_iff.1 hP
      rw [hPP.1] at q0
      rw [hPP.2] at q1
      clear hP hPP K1 K2 HC HL
      go_upto_region 4 with fail
      go_quiet (fail)
      go_wp2
      go_ret
      exact ⟨by rw [HF.out]; rfl, HB2.out _⟩
    · have L1 : Hid (∀ j (hj : j < M.length), j < k + 1 → isP e s M[j] = false) := by
        refine hide fun j hj hjk => ?_
        rcases Nat.lt_or_ge j k with h | h
        · exact K1.out j hj h
        · obtain rfl : j = k := by omega
          simpa using hP
      have hne : (M[k].1 : Int) = e → ¬ (M[k].2 : Int) = s := fun h1 h2 => hP (isP_iff.2 ⟨h1, h2⟩)
      generalize (M[k].1 : Int) = z1 at *
      generalize (M[k].2 : Int) = z2 at *
      clear hP K1 K2 HC HL
      by_cases hz : z1 = e
      · have hz2 := hne hz
        subst hz
        clear hne
        have hd2 : decide (z2 = s) = false := by simp [hz2]
        go_upto_region 4 with fail
        go_quiet (fail)
        have L2 := hide (L2'.out nq)
        go_wp2
        go_roundw
        case rel => exact ⟨k + 1, by omega, by go_num, L1, L2⟩
        case measure => simp [intOf]; omega
      · clear hne
        have hd2 : decide (z1 = e) = false := by simp [hz]
        go_upto_region 4 with fail
        go_quiet (fail)
        have L2 := hide (L2'.out nq)
        go_wp2
        go_roundw
        case rel => exact ⟨k + 1, by omega, by go_num, L1, L2⟩
        case measure => simp [intOf]; omega
  · have hd : decide ((k : Int) < (L : Int)) = false := by simp; omega
    have HF : Hid (ixM M e s = -1) := by
      refine hide ?_
      unfold ixM
      rw [List.findIdx?_eq_none_iff.2 fun x hx => ?_]
      obtain ⟨j, hj, rfl⟩ := List.getElem_of_mem hx
      exact K1.out j hj (by have := HL.out; omega)
    clear K1 HC HL hq
    go_wp2
    go_ret
    exact ⟨by rw [HF.out]; rfl, HB.out⟩
end Go.Proofs.Ytimfgjndgfjjgaa

namespace Go.Proofs.Ytimfgjndgfjjgaa
open Go.RowKit Go.Shelf

section
variable {P : Program} {ops : Array Oper} {Q : Exit → Act → World → Prop} {S : World → Prop} {fuel : Nat} {listed : Array Bool} {a : Act} {w : World}
/-- two operations that may come up -/
theorem hd_two (i j : Nat) {o1 o2 : Oper} (hr : Region.ready .any ops listed = [i, j]) (ho1 : ops[i]? = some o1) (ho2 : ops[j]? = some o2) (hw1 : Region.wanted o1 (yielded ops a.tmps) = true) (hw2 : Region.wanted o2 (yielded ops a.tmps) = true)
    (h1 : ∀ K : Act → World → Prop, (∀ a w, S w → wpAnyH P .any ops Q S fuel (listed.setIfInBounds i true) a w → K a w) → Oper.wp P o1 a w K Q)
    (h2 : ∀ K : Act → World → Prop, (∀ a w, S w → wpAnyH P .any ops Q S fuel (listed.setIfInBounds j true) a w → K a w) → Oper.wp P o2 a w K Q) : wpAnyH P .any ops Q S (fuel + 1) listed a w := by
  refine wpAnyH_ready hr (by simp) (AllReadyH.cons ho1 (fun K hK => ?_) (AllReadyH.cons ho2 (fun K hK => ?_) AllReadyH.nil))
  · rw [if_pos hw1]
    exact h1 K (fun a w hS hh => hK.out a w hS (fun _ => hh))
  · rw [if_pos hw2]
    exact h2 K (fun a w hS hh => hK.out a w hS (fun _ => hh))
end
/-- where the tail of a slice begins -/
def adB (g cap i : Nat) : Addr := if cap = i + 1 then ⟨g, 0, none⟩ else ⟨g, (i + 1) * 2, none⟩
theorem run_head {g n cap i : Nat} (h : i ≤ cap) (w : World) : (Instr.slice 29 (.slice (some ⟨g, 0, none⟩) n cap) none (some (.int .i64 (i : Int))) (some (.int .i64 (i : Int)))).run Try.prog w = .ok (.slice (some ⟨g, 0, none⟩) i i) w := by
  unfold Instr.slice
  rw [Sem.run_bind, run_underlying Try.underlying29 w]
  have h1 : (0 : Int) ≤ (i : Int) ∧ (i : Int) ≤ (cap : Int) := by omega
  have h2 : (0 : Int) ≤ (i : Int) ∧ (i : Int) ≤ (i : Int) := by omega
  simp [Instr.sliceBounds, Instr.sliceBound, asIntOf, h, Addr.add]
theorem run_tail {g n cap i : Nat} (h : i + 1 ≤ n) (w : World) : (Instr.slice 29 (.slice (some ⟨g, 0, none⟩) n cap) (some (.int .i64 ((i : Int) + 1))) none none).run Try.prog w = .ok (.slice (some (adB g cap i)) (n - (i + 1)) (cap - (i + 1))) w := by
  unfold Instr.slice
  rw [Sem.run_bind, run_underlying Try.underlying29 w]
  have h1 : (0 : Int) ≤ (i : Int) + 1 ∧ (i : Int) + 1 ≤ (n : Int) := by omega
  have h3 : ((i : Int) + 1).toNat = i + 1 := by omega
  simp [Instr.sliceBounds, Instr.sliceBound, asIntOf, h1, h3, Addr.add, adB]
  split <;> simp
theorem encPs_len' (M : List (Nat × Nat)) : (encPs M).length = M.length * 2 := by
  induction M with
  | nil => rfl
  | cons x t ih => simp only [encPs, List.flatMap_cons, List.length_append, List.length_cons] at ih ⊢; rw [ih]; simp [encP]; omega
theorem pr_of_row {w : World} {base : Nat} {v : Value} {M : List (Nat × Nat)} (h : w.ownsRow base 28 2 v M.length (encPs M)) : PR w v M := by
  have h' := h
  obtain ⟨h1, ⟨h2, h3⟩ | ⟨g, cap, cur, rfl, _, h5, h6, h7, h8, h9⟩⟩ := h
  · exact .inl ⟨h2, List.length_eq_zero_iff.1 h3⟩
  · refine .inr ⟨g, cap, cur, rfl, h5, h6, h7, by omega, fun k hk => ?_⟩
    have c0 := h'.cellAt (k * 2) (by omega)
    have c1 := h'.cellAt (k * 2 + 1) (by omega)
    rw [cell_of_row _ _ _ _ _ _ h5] at c0 c1
    exact ⟨c0.trans (encPs_at hk).1, c1.trans (encPs_at hk).2⟩
/-- the tail laid behind the head: a new row, or the head alone -/
theorem wp_append_cut {o : Oper} {a : Act} {K : Act → World → Prop} {Q : Exit → Act → World → Prop} (s x : Operand) (hop : o.op = Op.call { callee := Callee.builtin Builtin.append, args := #[s, x], argTypes := #[29, 29] }) (w : World) (g n cap i : Nat) (M : List (Nat × Nat)) (cur : Array Value)
    (hg : w.heap[g]? = some (.cells cur 28 (0, 0))) (hn : M.length = n) (hnc : n ≤ cap) (hcm : cap ≤ maxLen) (hcu : cap * 2 ≤ cur.size) (hel : ∀ k (hk : k < M.length), cur[k * 2]? = some (.int .i64 (M[k].1 : Int)) ∧ cur[k * 2 + 1]? = some (.int .i64 (M[k].2 : Int))) (hi : i + 1 ≤ n) (hn2 : n ≤ 2000)
    (hs : a.eval s = .slice (some ⟨g, 0, none⟩) i i) (hx : a.eval x = .slice (some (adB g cap i)) (n - (i + 1)) (cap - (i + 1)))
    (hK : ∀ v' w', PR w' v' (M.take i ++ M.drop (i + 1)) → (∀ g', v'.ownBlock = some g' → g' = g ∨ w.heap.size ≤ g') → Below w.heap.size w w' → K (a.put o.dst v') w') : Oper.wp Try.prog o a w K Q := by
  obtain ⟨ti, t1, t2, t3, t4⟩ := info28'
  have hcell : ∀ j, w.cell? ⟨g, j, none⟩ = cur[j]? := fun j => cell_of_row _ _ _ _ _ _ hg
  have hM : M = M.take i ++ M[i]'(by omega) :: M.drop (i + 1) := by rw [← List.drop_eq_getElem_cons (by omega), List.take_append_drop]
  have hold : ∀ j u, (encPs (M.take i))[j]? = some u → w.cell? ((⟨g, 0, none⟩ : Addr).add j) = some u := by
    intro j u hu
    have hj : j < i * 2 := by have := (List.getElem?_eq_some_iff.1 hu).1; rw [encPs_len', List.length_take] at this; omega
    obtain ⟨q, b, hb, rfl⟩ : ∃ q b, b < 2 ∧ j = q * 2 + b := ⟨j / 2, j % 2, Nat.mod_lt _ (by omega), by omega⟩
    have hq : q < (M.take i).length := by rw [List.length_take]; omega
    have hq2 : q < M.length := by omega
    rw [add0, hcell, ← hu]
    have hget : (M.take i)[q] = M[q] := List.getElem_take
    rcases (by omega : b = 0 ∨ b = 1) with rfl | rfl
    · simp only [Nat.add_zero]
      rw [(hel q hq2).1, (encPs_at hq).1, hget]
    · rw [(hel q hq2).2, (encPs_at hq).2, hget]
  rcases Nat.lt_or_ge (i + 1) n with hlt | hge
  · have had : adB g cap i = ⟨g, (i + 1) * 2, none⟩ := by unfold adB; rw [if_neg (by omega)]
    have hnew : ∀ j u, (encPs (M.drop (i + 1)))[j]? = some u → w.cell? ((⟨g, (i + 1) * 2, none⟩ : Addr).add j) = some u := by
      intro j u hu
      have hj : j < (n - (i + 1)) * 2 := by have := (List.getElem?_eq_some_iff.1 hu).1; rw [encPs_len', List.length_drop] at this; omega
      obtain ⟨q, b, hb, rfl⟩ : ∃ q b, b < 2 ∧ j = q * 2 + b := ⟨j / 2, j % 2, Nat.mod_lt _ (by omega), by omega⟩
      have hq : q < (M.drop (i + 1)).length := by rw [List.length_drop]; omega
      have hq2 : i + 1 + q < M.length := by omega
      have hget : (M.drop (i + 1))[q] = M[i + 1 + q] := List.getElem_drop
      rw [Addr.add_lit, hcell, ← hu]
      rcases (by omega : b = 0 ∨ b = 1) with rfl | rfl
      · simp only [Nat.add_zero]
        rw [(encPs_at hq).1, hget, show (i + 1) * 2 + (q * 2) = (i + 1 + q) * 2 by omega, (hel _ hq2).1]
      · rw [(encPs_at hq).2, hget, show (i + 1) * 2 + (q * 2 + 1) = (i + 1 + q) * 2 + 1 by omega, (hel _ hq2).2]
    rw [had] at hx
    obtain ⟨v', w', hrun, r1, r2⟩ := run_append_arg_grows (P := Try.prog) w 29 o.type 28 ti (.agg #[.int .i64 0, .int .i64 0]) 2 16 Try.underlying29 t1 t2 t3 t4 rfl (by decide) ⟨g, 0, none⟩ i i (encPs (M.take i)) (by rw [encPs_len', List.length_take]; omega) hold ⟨g, (i + 1) * 2, none⟩ (n - (i + 1)) (cap - (i + 1)) (encPs (M.drop (i + 1))) (by rw [encPs_len', List.length_drop]; omega) hnew (by omega) (by unfold maxLen; omega) (by omega)
    unfold Oper.wp
    simp [execOp, hop, resolve, invoke, builtin, hs, hx, hrun, Result.andThen]
    refine hK v' w' (pr_of_row (base := w.heap.size) ?_) (fun g' hg' => .inr (r1.lt g' hg').1) ⟨r2.os, r2.tape, r2.output, r2.size, fun k hk => r2.block k hk (by simp)⟩
    rw [show encPs (M.take i ++ M.drop (i + 1)) = encPs (M.take i) ++ encPs (M.drop (i + 1)) by simp [encPs]]
    rw [show (M.take i ++ M.drop (i + 1)).length = i + (n - (i + 1)) by rw [List.length_append, List.length_take, List.length_drop]; omega]
    exact r1
  · have h0 : n - (i + 1) = 0 := by omega
    have hd : M.drop (i + 1) = [] := List.drop_eq_nil_of_le (by omega)
    rw [h0] at hx
    have hrun := run_append_room_cells (P := Try.prog) w 29 o.type 28 ti Try.underlying29 t1 g 0 i i (adB g cap i) 0 (cap - (i + 1)) [] (by simp) (fun j u h => by simp at h) (fun u h => by simp at h) (by omega) (fun j hj => by simp at hj) (fun j hj => by simp at hj)
    unfold Oper.wp
    simp [execOp, hop, resolve, invoke, builtin, hs, hx, hrun, Result.andThen, World.setCells]
    refine hK _ w ?_ (fun g' hg' => .inl (by cases hg'; rfl)) (Below.refl _ _)
    rw [hd, List.append_nil]
    have hl : (M.take i).length = i := by rw [List.length_take]; omega
    refine .inr ⟨g, i, cur, by rw [hl], hg, by omega, by omega, by omega, fun k hk => ?_⟩
    rw [List.getElem_take]
    exact hel k (by omega)
theorem slice_head {a : Act} {o : Oper} {x y z : Operand} {g n cap i : Nat} (ho : o.op = .slice 29 x none (some y) (some z)) (hx : a.eval x = .slice (some ⟨g, 0, none⟩) n cap) (hy : a.eval y = .int .i64 (i : Int)) (hz : a.eval z = .int .i64 (i : Int)) (h : i ≤ cap) (w : World) : (execOp a.eval o).run Try.prog w = .ok (.value (.slice (some ⟨g, 0, none⟩) i i)) w := by
  have h1 := run_head (g := g) (n := n) h w
  unfold execOp
  simp only [ho, Option.map_some, Option.map_none, Instr.sliceAt, hx, hy, hz, Sem.run_bind, run_underlying Try.underlying29 w, h1, Result.andThen_ok, Sem.run_pure]
theorem slice_tail {a : Act} {o : Oper} {x y : Operand} {g n cap i : Nat} (ho : o.op = .slice 29 x (some y) none none) (hx : a.eval x = .slice (some ⟨g, 0, none⟩) n cap) (hy : a.eval y = .int .i64 ((i : Int) + 1)) (h : i + 1 ≤ n) (w : World) : (execOp a.eval o).run Try.prog w = .ok (.value (.slice (some (adB g cap i)) (n - (i + 1)) (cap - (i + 1)))) w := by
  have h1 := run_tail (g := g) (cap := cap) h w
  unfold execOp
  simp only [ho, Option.map_some, Option.map_none, Instr.sliceAt, hx, hy, Sem.run_bind, run_underlying Try.underlying29 w, h1, Result.andThen_ok, Sem.run_pure]
set_option maxRecDepth 8000 in
set_option maxHeartbeats 8000000 in
theorem cut_any (w : World) (Mb : Nat) (v : Value) (M : List (Nat × Nat)) (hm : w.heap[Mb]? = some (.cells #[v] 65 (0, 0))) (hp : PR w v M) (hne : ∀ g, v.ownBlock = some g → g ≠ Mb) (hn : M.length ≤ 2000) (e s : Int) :
    Calls Try.prog 59 #[.pointer (some ⟨Mb, 0, none⟩), .agg #[.int .i64 e, .int .i64 s]] w fun x w' => x = .returned (.tuple #[]) ∧ ∃ v', w'.heap[Mb]? = some (.cells #[v'] 65 (0, 0)) ∧ PR w' v' (cutM M e s) ∧ (∀ g, v'.ownBlock = some g → v.ownBlock = some g ∨ w.heap.size ≤ g) ∧ Mod (fun b => b = Mb) w w' := by
  have hb0 := (Below.refl w.heap.size w).alloc (Nat.le_refl _) (.cells #[.int .i64 e, .int .i64 s] 28)
  have hp0 := heap_alloc_new w (.cells #[.int .i64 e, .int .i64 s] 28)
  have hMl := (Array.getElem?_eq_some_iff.1 hm).1
  have hm0 := (hb0.block Mb hMl).trans hm
  have hpr0 := hp.keep (w' := w.alloc (.cells #[.int .i64 e, .int .i64 s] 28)) (fun g hg => hb0.block g (hp.lt g hg))
  have HAt := hide (at_any _ Mb v M hm0 hpr0 hn e s)
  have HB0 := hide hb0
  have HM0 := hide hm
  have HP0 := hide hp
  have HNe := hide hne
  obtain ⟨c0, c1, -, -⟩ := blk2 hp0
  clear hb0 hp0 hm0 hpr0 hm hp hne
  go_enter Try.func59, Try.ntmps59
  go_upto_region 1 with fail
  generalize w.alloc (.cells #[.int .i64 e, .int .i64 s] 28) = w0 at *
  go_wp2_with fail
  refine HAt.out.mono ?_
  rintro x w1 ⟨rfl, hb1⟩
  have HB1 := hide (HB0.out.trans (hb1.mono HB0.out.size))
  clear HAt hb1 c0 c1 HB0
  have HMod : Hid (∀ w2 : World, Below w.heap.size w w2 → Mod (fun b => b = Mb) w w2) := hide fun w2 h => ⟨h.os, h.tape, h.output, h.size, fun b hb _ => h.block b hb⟩
  cases hf : M.findIdx? (isP e s) with
  | none =>
    have hix : ixM M e s = -1 := by unfold ixM; rw [hf]
    have hcut : cutM M e s = M := by unfold cutM; rw [hf]
    rw [hix]
    have HFin := hide (show ∃ v', w1.heap[Mb]? = some (.cells #[v'] 65 (0, 0)) ∧ PR w1 v' (cutM M e s) ∧ (∀ g, v'.ownBlock = some g → v.ownBlock = some g ∨ w.heap.size ≤ g) ∧ Mod (fun b => b = Mb) w w1 from ⟨v, (HB1.out.block Mb hMl).trans HM0.out, by rw [hcut]; exact HP0.out.keep (fun g hg => HB1.out.block g (HP0.out.lt g hg)), fun g hg => .inl hg, HMod.out _ HB1.out⟩)
    clear hf hix hcut
    go_wp2
    go_end0
    exact ⟨rfl, HFin.out⟩
  | some i =>
    have hix : ixM M e s = (i : Int) := by unfold ixM; rw [hf]
    have hcut : cutM M e s = M.take i ++ M.drop (i + 1) := by unfold cutM; rw [hf]
    obtain ⟨hi, -, -⟩ := List.findIdx?_eq_some_iff_getElem.1 hf
    rw [hix]
    have HCut := hide hcut
    rcases HP0.out with ⟨_, rfl⟩ | ⟨g, cap, cur, rfl, hg, h2, h3, h4, h5⟩
    · cases hi
    obtain ⟨n, hL⟩ : ∃ n, M.length = n := ⟨_, rfl⟩
    rw [hL] at hi h2 hn HM0 HNe
    have hgw : g < w.heap.size := (Array.getElem?_eq_some_iff.1 hg).1
    have hg1 := (HB1.out.block g hgw).trans hg
    have hm1 := (HB1.out.block Mb hMl).trans HM0.out
    obtain ⟨w2, hw2⟩ : ∃ w2, w2 = w1.drew := ⟨_, rfl⟩
    have HG : Hid (w2.heap[g]? = some (.cells cur 28 (0, 0))) := by rw [hw2]; exact hg1
    have HM : Hid (w2.heap[Mb]? = some (.cells #[.slice (some ⟨g, 0, none⟩) n cap] 65 (0, 0))) := by rw [hw2]; exact hm1
    have HB2 : Hid (Below w.heap.size w w2) := by rw [hw2]; exact HB1.out.drew
    have HNn := hide hL
    have HNc := hide h2
    have HCm := hide h3
    have HCu := hide h4
    have HEl := hide h5
    have HLt := hide (show i + 1 ≤ n by omega)
    have HCap := hide (show i ≤ cap by omega)
    have HN2 := hide hn
    have hmc : w2.cell? ⟨Mb, 0, none⟩ = some (.slice (some ⟨g, 0, none⟩) n cap) := by rw [cell_of_row _ _ _ _ _ _ HM.out]; rfl
    have hib : (i : Int) < 9223372036854775807 := by omega
    have HFn : Hid (∀ (v8 : Value) (w8 : World), PR w8 v8 (M.take i ++ M.drop (i + 1)) → (∀ g', v8.ownBlock = some g' → g' = g ∨ w2.heap.size ≤ g') → Below w2.heap.size w2 w8 → (w8.setCell ⟨Mb, 0, none⟩ v8).heap[Mb]? = some (.cells #[v8] 65 (0, 0)) →
        ∃ v', (w8.setCell ⟨Mb, 0, none⟩ v8).heap[Mb]? = some (.cells #[v'] 65 (0, 0)) ∧ PR (w8.setCell ⟨Mb, 0, none⟩ v8) v' (M.take i ++ M.drop (i + 1)) ∧ (∀ g', v'.ownBlock = some g' → (Value.slice (some ⟨g, 0, none⟩) n cap).ownBlock = some g' ∨ w.heap.size ≤ g') ∧ Mod (fun b => b = Mb) w (w8.setCell ⟨Mb, 0, none⟩ v8)) := by
      refine hide fun v8 w8 q1 q2 q3 q4 => ⟨v8, q4, q1.keep (fun g' hg' => ?_), fun g' hg' => ?_, ?_⟩
      · refine heap_setCell_other _ _ _ _ (fun e => ?_)
        have e' : g' = Mb := e
        rcases q2 g' hg' with h | h
        · exact HNe.out g rfl (h.symm.trans e')
        · have := HB2.out.size; omega
      · rcases q2 g' hg' with h | h
        · exact .inl (by rw [h]; rfl)
        · exact .inr (Nat.le_trans HB2.out.size h)
      · have hb8 := HB2.out.trans (q3.mono HB2.out.size)
        refine ⟨hb8.os, hb8.tape, hb8.output, ?_, fun b hb hf => ?_⟩
        · simpa [World.setCell] using hb8.size
        · rw [heap_setCell_other _ _ _ _ hf]; exact hb8.block b hb
    have hi0 : decide ((0 : Int) ≤ (i : Int)) = true := by simp
    have HWr : Hid (IntKind.i64.wrap ((i : Int) + 1) = (i : Int) + 1) := hide (by simp [IntKind.wrap, IntKind.signed, IntKind.bits]; omega)
    clear hf hix hcut h2 h3 h4 h5 hg1 hm1 hg HP0 HM0
    go_upto_region 3 with fail
    refine wp_region_held_drew (S := fun _ => True) (by kernel_rfl) trivial (fun _ => ?_)
    rw [← hw2]
    clear hw2
    refine hd_take 0 (o := ⟨some 10, _, _, _, _, _⟩) (.pointer (some ⟨Mb, 0, none⟩)) (by kernel_rfl) (by kernel_rfl) (by kernel_rfl) rfl (by rfl) (fun W hSw => by go_simp) (fun _ _ _ h => h) trivial ?_
    simp only [Act.put, List.setIfInBounds_toArray, List.set_cons_zero, List.set_cons_succ]
    refine hd_take 1 (o := ⟨some 11, _, _, _, _, _⟩) (.pointer (some ⟨Mb, 0, none⟩)) (by kernel_rfl) (by kernel_rfl) (by kernel_rfl) rfl (by rfl) (fun W hSw => by go_simp) (fun _ _ _ h => h) trivial ?_
    simp only [Act.put, List.setIfInBounds_toArray, List.set_cons_zero, List.set_cons_succ]
    refine hd_take 2 (o := ⟨some 12, _, _, _, _, _⟩) (.pointer (some ⟨Mb, 0, none⟩)) (by kernel_rfl) (by kernel_rfl) (by kernel_rfl) rfl (by rfl) (fun W hSw => by go_simp) (fun _ _ _ h => h) trivial ?_
    simp only [Act.put, List.setIfInBounds_toArray, List.set_cons_zero, List.set_cons_succ]
    refine hd_take 3 (o := ⟨some 13, _, _, _, _, _⟩) (.pointer (some ⟨Mb, 0, none⟩)) (by kernel_rfl) (by kernel_rfl) (by kernel_rfl) rfl (by rfl) (fun W hSw => by go_simp) (fun _ _ _ h => h) trivial ?_
    simp only [Act.put, List.setIfInBounds_toArray, List.set_cons_zero, List.set_cons_succ]
    refine hd_take 5 (o := ⟨some 15, _, _, _, _, _⟩) (.int .i64 (i : Int)) (by kernel_rfl) (by kernel_rfl) (by kernel_rfl) rfl (by rfl) (fun W hSw => by go_simp) (fun _ _ _ h => h) trivial ?_
    simp only [Act.put, List.setIfInBounds_toArray, List.set_cons_zero, List.set_cons_succ]
    refine hd_take 6 (o := ⟨some 16, _, _, _, _, _⟩) (.int .i64 (i : Int)) (by kernel_rfl) (by kernel_rfl) (by kernel_rfl) rfl (by rfl) (fun W hSw => by go_simp) (fun _ _ _ h => h) trivial ?_
    simp only [Act.put, List.setIfInBounds_toArray, List.set_cons_zero, List.set_cons_succ]
    refine hd_take 8 (o := ⟨some 18, _, _, _, _, _⟩) (.pointer (some ⟨Mb, 0, none⟩)) (by kernel_rfl) (by kernel_rfl) (by kernel_rfl) rfl (by rfl) (fun W hSw => by go_simp) (fun _ _ _ h => h) trivial ?_
    simp only [Act.put, List.setIfInBounds_toArray, List.set_cons_zero, List.set_cons_succ]
    refine hd_take 9 (o := ⟨some 19, _, _, _, _, _⟩) (.pointer (some ⟨Mb, 0, none⟩)) (by kernel_rfl) (by kernel_rfl) (by kernel_rfl) rfl (by rfl) (fun W hSw => by go_simp) (fun _ _ _ h => h) trivial ?_
    simp only [Act.put, List.setIfInBounds_toArray, List.set_cons_zero, List.set_cons_succ]
    refine hd_take 10 (o := ⟨some 20, _, _, _, _, _⟩) (.pointer (some ⟨Mb, 0, none⟩)) (by kernel_rfl) (by kernel_rfl) (by kernel_rfl) rfl (by rfl) (fun W hSw => by go_simp) (fun _ _ _ h => h) trivial ?_
    simp only [Act.put, List.setIfInBounds_toArray, List.set_cons_zero, List.set_cons_succ]
    refine hd_take 12 (o := ⟨some 22, _, _, _, _, _⟩) (.int .i64 (i : Int)) (by kernel_rfl) (by kernel_rfl) (by kernel_rfl) rfl (by rfl) (fun W hSw => by go_simp) (fun _ _ _ h => h) trivial ?_
    simp only [Act.put, List.setIfInBounds_toArray, List.set_cons_zero, List.set_cons_succ]
    refine hd_take 13 (o := ⟨some 23, _, _, _, _, _⟩) (.int .i64 ((i : Int) + 1)) (by kernel_rfl) (by kernel_rfl) (by kernel_rfl) rfl (by rfl) (fun W hSw => by go_simp; exact HWr.out) (fun _ _ _ h => h) trivial ?_
    simp only [Act.put, List.setIfInBounds_toArray, List.set_cons_zero, List.set_cons_succ]
    refine hd_two 4 11 (o1 := ⟨some 14, _, _, _, _, _⟩) (o2 := ⟨some 21, _, _, _, _, _⟩) (by kernel_rfl) rfl rfl (by rfl) (by rfl) (fun K hK => ?_) (fun K hK => ?_)
    · go_simp
      refine hK _ _ trivial ?_
      clear hK K
      try simp only [Act.put, List.setIfInBounds_toArray, List.set_cons_zero, List.set_cons_succ]
      refine hd_take 7 (o := ⟨some 17, _, _, _, _, _⟩) (.slice (some ⟨g, 0, none⟩) i i) (by kernel_rfl) (by kernel_rfl) (by kernel_rfl) rfl (by rfl) (fun W _ => by exact slice_head rfl rfl rfl rfl HCap.out W) (fun _ _ _ h => h) trivial ?_
      simp only [Act.put, List.setIfInBounds_toArray, List.set_cons_zero, List.set_cons_succ]
      refine hd_call 11 (o := ⟨some 21, _, _, _, _, _⟩) (by kernel_rfl) rfl (by rfl) (fun K hK => ?_)
      go_simp
      refine hK _ _ trivial ?_
      clear hK K
      try simp only [Act.put, List.setIfInBounds_toArray, List.set_cons_zero, List.set_cons_succ]
      refine hd_take 14 (o := ⟨some 24, _, _, _, _, _⟩) (.slice (some (adB g cap i)) (n - (i + 1)) (cap - (i + 1))) (by kernel_rfl) (by kernel_rfl) (by kernel_rfl) rfl (by rfl) (fun W _ => by exact slice_tail rfl rfl rfl HLt.out W) (fun _ _ _ h => h) trivial ?_
      simp only [Act.put, List.setIfInBounds_toArray, List.set_cons_zero, List.set_cons_succ]
      clear hmc
      refine hd_call 15 (o := ⟨some 25, _, _, _, _, _⟩) (by kernel_rfl) rfl (by rfl) (fun K hK => ?_)
      refine wp_append_cut (.tmp 17) (.tmp 24) rfl w2 g n cap i M cur HG.out HNn.out HNc.out HCm.out HCu.out HEl.out HLt.out HN2.out (by simp [Act.eval]) (by simp [Act.eval]) ?_
      intro v8 w8 hp8 hg8 hb8
      obtain ⟨a8, c8, rfl⟩ := hp8.len
      have ⟨L8, hL8⟩ : ∃ L, (M.take i ++ M.drop (i + 1)).length = L := ⟨_, rfl⟩
      rw [hL8] at hp8 hg8 ⊢
      clear hL8
      refine hK _ _ trivial ?_
      clear hK K
      try simp only [Act.put, List.setIfInBounds_toArray, List.set_cons_zero, List.set_cons_succ]
      have HP8 := hide hp8
      have HG8 := hide hg8
      have HB8 := hide hb8
      have hm8 : w8.heap[Mb]? = some (.cells #[.slice (some ⟨g, 0, none⟩) n cap] 65 (0, 0)) := (hb8.block Mb (Array.getElem?_eq_some_iff.1 HM.out).1).trans HM.out
      have m0 : w8.cell? ⟨Mb, 0, none⟩ = some (.slice (some ⟨g, 0, none⟩) n cap) := by rw [cell_of_row _ _ _ _ _ _ hm8]; rfl
      have mf : w8.frozen? ⟨Mb, 0, none⟩ = false := frozen_of_row _ _ _ _ _ hm8
      have HM8 := hide (heap_setCell_same w8 Mb 0 _ _ (.slice a8 L8 c8) hm8)
      clear hp8 hg8 hb8 hm8
      refine hd_take 16 (o := ⟨some 26, _, _, _, _, _⟩) (.pointer (some ⟨Mb, 0, none⟩)) (by kernel_rfl) (by kernel_rfl) (by kernel_rfl) rfl (by rfl) (fun W hSw => by go_simp) (fun _ _ _ h => h) trivial ?_
      simp only [Act.put, List.setIfInBounds_toArray, List.set_cons_zero, List.set_cons_succ]
      refine hd_take 17 (o := ⟨some 27, _, _, _, _, _⟩) (.pointer (some ⟨Mb, 0, none⟩)) (by kernel_rfl) (by kernel_rfl) (by kernel_rfl) rfl (by rfl) (fun W hSw => by go_simp) (fun _ _ _ h => h) trivial ?_
      simp only [Act.put, List.setIfInBounds_toArray, List.set_cons_zero, List.set_cons_succ]
      refine hd_call 18 (o := ⟨none, _, _, _, _, _⟩) (by kernel_rfl) rfl (by rfl) (fun K hK => ?_)
      go_simp
      refine hK _ _ trivial ?_
      clear hK K
      refine wpAnyH_done (by kernel_rfl) ?_ _
      go_wp2
      go_end0
      rw [HCut.out]
      exact ⟨rfl, HFn.out _ _ HP8.out HG8.out HB8.out HM8.out⟩
    · go_simp
      refine hK _ _ trivial ?_
      clear hK K
      try simp only [Act.put, List.setIfInBounds_toArray, List.set_cons_zero, List.set_cons_succ]
      refine hd_take 14 (o := ⟨some 24, _, _, _, _, _⟩) (.slice (some (adB g cap i)) (n - (i + 1)) (cap - (i + 1))) (by kernel_rfl) (by kernel_rfl) (by kernel_rfl) rfl (by rfl) (fun W _ => by exact slice_tail rfl rfl rfl HLt.out W) (fun _ _ _ h => h) trivial ?_
      simp only [Act.put, List.setIfInBounds_toArray, List.set_cons_zero, List.set_cons_succ]
      refine hd_call 4 (o := ⟨some 14, _, _, _, _, _⟩) (by kernel_rfl) rfl (by rfl) (fun K hK => ?_)
      go_simp
      refine hK _ _ trivial ?_
      clear hK K
      try simp only [Act.put, List.setIfInBounds_toArray, List.set_cons_zero, List.set_cons_succ]
      refine hd_take 7 (o := ⟨some 17, _, _, _, _, _⟩) (.slice (some ⟨g, 0, none⟩) i i) (by kernel_rfl) (by kernel_rfl) (by kernel_rfl) rfl (by rfl) (fun W _ => by exact slice_head rfl rfl rfl rfl HCap.out W) (fun _ _ _ h => h) trivial ?_
      simp only [Act.put, List.setIfInBounds_toArray, List.set_cons_zero, List.set_cons_succ]
      clear hmc
      refine hd_call 15 (o := ⟨some 25, _, _, _, _, _⟩) (by kernel_rfl) rfl (by rfl) (fun K hK => ?_)
      refine wp_append_cut (.tmp 17) (.tmp 24) rfl w2 g n cap i M cur HG.out HNn.out HNc.out HCm.out HCu.out HEl.out HLt.out HN2.out (by simp [Act.eval]) (by simp [Act.eval]) ?_
      intro v8 w8 hp8 hg8 hb8
      obtain ⟨a8, c8, rfl⟩ := hp8.len
      have ⟨L8, hL8⟩ : ∃ L, (M.take i ++ M.drop (i + 1)).length = L := ⟨_, rfl⟩
      rw [hL8] at hp8 hg8 ⊢
      clear hL8
      refine hK _ _ trivial ?_
      clear hK K
      try simp only [Act.put, List.setIfInBounds_toArray, List.set_cons_zero, List.set_cons_succ]
      have HP8 := hide hp8
      have HG8 := hide hg8
      have HB8 := hide hb8
      have hm8 : w8.heap[Mb]? = some (.cells #[.slice (some ⟨g, 0, none⟩) n cap] 65 (0, 0)) := (hb8.block Mb (Array.getElem?_eq_some_iff.1 HM.out).1).trans HM.out
      have m0 : w8.cell? ⟨Mb, 0, none⟩ = some (.slice (some ⟨g, 0, none⟩) n cap) := by rw [cell_of_row _ _ _ _ _ _ hm8]; rfl
      have mf : w8.frozen? ⟨Mb, 0, none⟩ = false := frozen_of_row _ _ _ _ _ hm8
      have HM8 := hide (heap_setCell_same w8 Mb 0 _ _ (.slice a8 L8 c8) hm8)
      clear hp8 hg8 hb8 hm8
      refine hd_take 16 (o := ⟨some 26, _, _, _, _, _⟩) (.pointer (some ⟨Mb, 0, none⟩)) (by kernel_rfl) (by kernel_rfl) (by kernel_rfl) rfl (by rfl) (fun W hSw => by go_simp) (fun _ _ _ h => h) trivial ?_
      simp only [Act.put, List.setIfInBounds_toArray, List.set_cons_zero, List.set_cons_succ]
      refine hd_take 17 (o := ⟨some 27, _, _, _, _, _⟩) (.pointer (some ⟨Mb, 0, none⟩)) (by kernel_rfl) (by kernel_rfl) (by kernel_rfl) rfl (by rfl) (fun W hSw => by go_simp) (fun _ _ _ h => h) trivial ?_
      simp only [Act.put, List.setIfInBounds_toArray, List.set_cons_zero, List.set_cons_succ]
      refine hd_call 18 (o := ⟨none, _, _, _, _, _⟩) (by kernel_rfl) rfl (by rfl) (fun K hK => ?_)
      go_simp
      refine hK _ _ trivial ?_
      clear hK K
      refine wpAnyH_done (by kernel_rfl) ?_ _
      go_wp2
      go_end0
      rw [HCut.out]
      exact ⟨rfl, HFn.out _ _ HP8.out HG8.out HB8.out HM8.out⟩
end Go.Proofs.Ytimfgjndgfjjgaa

namespace Go.Proofs.Ytimfgjndgfjjgaa
open Go.RowKit Go.Shelf

theorem cutAll_le : ∀ (l : List Hd) (M : List (Nat × Nat)), (cutAll M l).length ≤ M.length
  | [], _ => Nat.le_refl _
  | y :: t, M => Nat.le_trans (cutAll_le t (cutM M y.1 (y.2.1 : Int))) (cutM_len _ _ _)
theorem cutAll_snoc (M : List (Nat × Nat)) (l : List Hd) (y : Hd) : cutAll M (l ++ [y]) = cutM (cutAll M l) y.1 (y.2.1 : Int) := by simp [cutAll]
/-- the marks, at block Mb -/
structure Mr (w wr : World) (Mb : Nat) (v0 v : Value) (M : List (Nat × Nat)) : Prop where
  at_ : wr.heap[Mb]? = some (.cells #[v] 65 (0, 0))
  pr : PR wr v M
  from_ : ∀ g, v.ownBlock = some g → v0.ownBlock = some g ∨ w.heap.size ≤ g
  mod : Mod (fun b => b = Mb) w wr
theorem mod_cell {Mb : Nat} {w wr : World} (h : Mod (fun b => b = Mb) w wr) {g j : Nat} (hg : g < w.heap.size) (hne : g ≠ Mb) : wr.cell? ⟨g, j, none⟩ = w.cell? ⟨g, j, none⟩ := by
  unfold World.cell?
  rw [h.block g hg hne]
theorem Mr.drew {w wr : World} {Mb : Nat} {v0 v : Value} {M : List (Nat × Nat)} (h : Mr w wr Mb v0 v M) : Mr w wr.drew Mb v0 v M :=
  ⟨h.at_, h.pr.keep (fun _ _ => rfl), h.from_, ⟨h.mod.os, h.mod.tape, h.mod.output, h.mod.size, h.mod.block⟩⟩
set_option maxRecDepth 8000 in
set_option maxHeartbeats 8000000 in
theorem cutAll_any (w : World) (Mb : Nat) (v : Value) (M : List (Nat × Nat)) (hm : w.heap[Mb]? = some (.cells #[v] 65 (0, 0))) (hp : PR w v M) (hne : ∀ g, v.ownBlock = some g → g ≠ Mb) (hn : M.length ≤ 2000) (vl : Value) (l : List Hd) (hl : HeldAt w vl l) (hlb : ∀ g, vl.ownBlock = some g → g ≠ Mb) (hln : l.length ≤ 768) :
    Calls Try.prog 60 #[.pointer (some ⟨Mb, 0, none⟩), vl] w fun x w' => x = .returned (.tuple #[]) ∧ ∃ v', Mr w w' Mb v v' (cutAll M l) := by
  obtain ⟨L, hL⟩ : ∃ L, l.length = L := ⟨_, rfl⟩
  obtain ⟨al, cl, rfl, hcl⟩ := hl
  have hMl := (Array.getElem?_eq_some_iff.1 hm).1
  have HC : Hid (∀ wr, Mod (fun b => b = Mb) w wr → ∀ k (hk : k < l.length), ∃ g, al = some ⟨g, 0, none⟩ ∧ wr.cell? ⟨g, k * 6, none⟩ = some (.int .i64 l[k].1) ∧ wr.cell? ⟨g, k * 6 + 1, none⟩ = some (.int .i64 (l[k].2.1 : Int))) := by
    refine hide fun wr hmod k hk => ?_
    obtain ⟨g, rfl, h2, h3, h4, _⟩ := hcl k hk
    exact ⟨g, rfl, by rw [mod_cell hmod h2 (hlb g rfl)]; exact h3, by rw [mod_cell hmod h2 (hlb g rfl)]; exact h4⟩
  have H0 : Hid (Mr w w Mb v v (cutAll M (l.take 0))) := hide ⟨hm, hp, fun g hg => .inl hg, ⟨rfl, rfl, rfl, Nat.le_refl _, fun _ _ _ => rfl⟩⟩
  have HNe := hide hne
  clear hcl hlb hm hp hne
  rw [hL] at hln ⊢
  have HL := hide hL
  clear hL
  go_enter Try.func60, Try.ntmps60
  go_wp2_with fail
  go_loopw [4] (fun x wr => ∃ (k : Nat) (v' : Value), k ≤ L ∧ x = .int .i64 (k : Int) ∧ Hid (Mr w wr Mb v v' (cutAll M (l.take k)))) (fun x _ => L - (intOf x).toNat)
  case atStart => exact ⟨0, v, by omega, rfl, H0⟩
  case round =>
  clear H0
  obtain ⟨k, v', hk, rfl, K1⟩ := hrel
  by_cases hlt : k < L
  · have hlt' : k < l.length := by rw [HL.out]; exact hlt
    have K2 := hide K1.out.drew
    obtain ⟨gl, rfl, q0, q1⟩ := HC.out wr.drew K2.out.mod k hlt'
    have HT : Hid (cutAll M (l.take (k + 1)) = cutM (cutAll M (l.take k)) l[k].1 (l[k].2.1 : Int)) := by
      refine hide ?_
      rw [List.take_add_one, List.getElem?_eq_getElem hlt']; exact cutAll_snoc _ _ _
    have HCut : Hid (∀ W, W = wr.drew → Calls Try.prog 59 #[.pointer (some ⟨Mb, 0, none⟩), .agg #[.int .i64 l[k].1, .int .i64 (l[k].2.1 : Int)]] W fun x w' => x = .returned (.tuple #[]) ∧ (∃ v'', Mr w w' Mb v v'' (cutAll M (l.take (k + 1)))) ∧ w'.cell? ⟨gl, k * 6, none⟩ = some (.int .i64 l[k].1) ∧ w'.cell? ⟨gl, k * 6 + 1, none⟩ = some (.int .i64 (l[k].2.1 : Int))) := by
      refine hide fun W hW => ?_
      subst hW
      refine (cut_any wr.drew Mb v' _ K2.out.at_ K2.out.pr (fun g hg => ?_) (Nat.le_trans (cutAll_le _ _) hn) l[k].1 (l[k].2.1 : Int)).mono ?_
      · rcases K2.out.from_ g hg with h1 | h1
        · exact HNe.out g h1
        · omega
      · rintro x w' ⟨rfl, v'', h1, h2, h3, h4⟩
        have hm' : Mod (fun b => b = Mb) w w' := ⟨h4.os.trans K2.out.mod.os, h4.tape.trans K2.out.mod.tape, h4.output.trans K2.out.mod.output, Nat.le_trans K2.out.mod.size h4.size, fun b hb hf => (h4.block b (Nat.lt_of_lt_of_le hb K2.out.mod.size) hf).trans (K2.out.mod.block b hb hf)⟩
        refine ⟨rfl, ⟨v'', h1, by rw [HT.out]; exact h2, fun g hg => ?_, hm'⟩, ?_⟩
        · rcases h3 g hg with h5 | h5
          · exact K2.out.from_ g h5
          · exact .inr (Nat.le_trans K2.out.mod.size h5)
        · obtain ⟨g', e, r0, r1⟩ := HC.out w' hm' k hlt'
          cases e
          exact ⟨r0, r1⟩
    generalize l[k].1 = z1 at *
    generalize (l[k].2.1 : Int) = z2 at *
    have hkl : (k : Int) < (L : Int) := by omega
    have hwk : k * 6 + 5 < L * 6 := by omega
    have c3 : wr.drew.cell? ⟨gl, k * 6, none⟩ = some (.int .i64 z1) ∧ wr.drew.cell? ⟨gl, k * 6 + 1, none⟩ = some (.int .i64 z2) := ⟨q0, q1⟩
    clear q0 q1 K1 K2 HT
    go_upto_region 3 with fail
    go_region_held (fun W => W.cell? ⟨gl, k * 6, none⟩ = some (.int .i64 z1) ∧ W.cell? ⟨gl, k * 6 + 1, none⟩ = some (.int .i64 z2))
      (first | assumption | exact q1 | exact c3)
      (first | (go_at_call 59; refine (HCut.out _ rfl).mono ?_; rintro e1 w5 ⟨rfl, hM5, q1⟩
                have HM5 := hide hM5
                clear hM5))
    obtain ⟨v5, hM5⟩ := HM5.out
    have HM6 := hide hM5
    clear hM5 HM5 HCut
    go_wp2
    go_roundw
    case rel =>
      first
        | exact ⟨k + 1, v5, by omega, by go_num, HM6⟩
        | ((repeat apply Exists.intro); refine ⟨?_, rfl⟩; exact ⟨k + 1, v5, by omega, by go_num, HM6⟩)
    case measure => simp [intOf]; omega
  · have hd : decide ((k : Int) < (L : Int)) = false := by simp; omega
    have HF : Hid (∃ v', Mr w wr Mb v v' (cutAll M l)) := by
      have h9 := K1.out
      rw [List.take_of_length_le (by rw [HL.out]; omega)] at h9
      exact hide ⟨v', h9⟩
    clear K1
    go_wp2
    go_end0
    exact ⟨rfl, HF.out⟩
end Go.Proofs.Ytimfgjndgfjjgaa

namespace Go.Proofs.Ytimfgjndgfjjgaa
open Go.RowKit Go.Shelf

theorem encPs_app (M : List (Nat × Nat)) (p : Nat × Nat) : encPs (M ++ [p]) = encPs M ++ [.int .i64 (p.1 : Int), .int .i64 (p.2 : Int)] := encPs_snoc _ _
/-- one more place -/
theorem wp_append_one {o : Oper} {a : Act} {K : Act → World → Prop} {Q : Exit → Act → World → Prop} (s x : Operand) (hop : o.op = Op.call { callee := Callee.builtin Builtin.append, args := #[s, x], argTypes := #[29, 29] }) (w : World) (v : Value) (M : List (Nat × Nat)) (hp : PR w v M) (hs : a.eval s = v)
    (N : Nat) (p : Nat × Nat) (hN : w.heap[N]? = some (.cells #[.int .i64 (p.1 : Int), .int .i64 (p.2 : Int)] 28 (0, 0))) (hx : a.eval x = .slice (some ⟨N, 0, none⟩) 1 1) (hn : M.length ≤ 2000)
    (hK : ∀ v' w', PR w' v' (M ++ [p]) → (∀ g, v'.ownBlock = some g → v.ownBlock = some g ∨ w.heap.size ≤ g) → w.grownBy w' v.ownBlock → K (a.put o.dst v') w') : Oper.wp Try.prog o a w K Q := by
  obtain ⟨ti, t1, t2, t3, t4⟩ := info28'
  have hnew : ∀ j u, ([.int .i64 (p.1 : Int), .int .i64 (p.2 : Int)] : List Value)[j]? = some u → w.cell? ((⟨N, 0, none⟩ : Addr).add j) = some u := fun j u hu => by rw [add0, cell_of_row _ _ _ _ _ _ hN]; simpa using hu
  have hone : ∀ u ∈ ([.int .i64 (p.1 : Int), .int .i64 (p.2 : Int)] : List Value), u.oneCell' = true := fun u hu => by simp at hu; rcases hu with rfl | rfl <;> rfl
  rcases hp with ⟨rfl, rfl⟩ | ⟨g, cap, cur, rfl, hg, h2, h3, h4, h5⟩
  · obtain ⟨v', w', hrun, r1, r2, _⟩ := run_append_own (P := Try.prog) w w.heap.size 29 o.type 28 ti (.agg #[.int .i64 0, .int .i64 0]) 2 16 Try.underlying29 t1 t2 t3 t4 rfl (by decide) (.slice none 0 0) 0 [] (World.ownsRow_nil w _ _ 2) ⟨N, 0, none⟩ 1 1 [.int .i64 (p.1 : Int), .int .i64 (p.2 : Int)] rfl hnew hone (by unfold maxLen; omega) (by omega) (Nat.le_refl _)
    unfold Oper.wp
    simp [execOp, hop, resolve, invoke, builtin, hs, hx, hrun, Result.andThen]
    exact hK v' w' (pr_of_row (base := w.heap.size) (by rw [encPs_app]; exact r1)) (fun g hg => .inr (r1.lt g hg).1) r2
  · have hcell : ∀ j, w.cell? ⟨g, j, none⟩ = cur[j]? := fun j => cell_of_row _ _ _ _ _ _ hg
    rcases Nat.lt_or_ge M.length cap with hlt | hge
    · have hrun := run_append_room_cells (P := Try.prog) w 29 o.type 28 ti Try.underlying29 t1 g 0 M.length cap ⟨N, 0, none⟩ 1 1 [.int .i64 (p.1 : Int), .int .i64 (p.2 : Int)] (by rw [t3]; rfl) hnew hone (by omega) (fun j hj => by
        rw [t3, hcell, Array.getElem?_eq_getElem (by simp at hj; omega)]; rfl) (fun j hj => frozen_of_row _ _ _ _ _ hg)
      rw [t3] at hrun
      unfold Oper.wp
      simp only [execOp, hop, resolve, invoke, builtin, Sem.run_bind, Sem.run_pure, Result.andThen_ok, List.map_toArray, List.map_cons, List.map_nil, hs, hx, hrun]
      obtain ⟨cs', q1, q2, q3⟩ := heap_setCells g 28 [.int .i64 (p.1 : Int), .int .i64 (p.2 : Int)] (0 + M.length * 2) w cur hg
      obtain ⟨r1, r2, r3, r4⟩ := setCells_rest g [.int .i64 (p.1 : Int), .int .i64 (p.2 : Int)] (0 + M.length * 2) w
      refine hK _ _ (.inr ⟨g, cap, cs', by rw [List.length_append]; rfl, q1, by rw [List.length_append]; exact hlt, h3, by rw [q2]; exact h4, fun k hk => ?_⟩) (fun g' hg' => .inl hg') ⟨r1, r2, r3, by rw [r4]; exact Nat.le_refl _, fun k _ hk => heap_setCells_other g k (fun e => hk (by rw [e]; rfl)) _ _ _⟩
      rw [List.length_append] at hk
      have hk' : k < M.length + 1 := hk
      rcases Nat.lt_or_ge k M.length with h | h
      · rw [List.getElem_append_left h, q3 _ (by omega), q3 _ (by omega), if_neg (by omega), if_neg (by omega)]
        exact h5 k h
      · obtain rfl : k = M.length := by omega
        rw [List.getElem_append_right (Nat.le_refl _), q3 _ (by omega), q3 _ (by omega), if_pos (by simp), if_pos (by simp)]
        simp [show M.length * 2 + 1 - M.length * 2 = 1 by omega]
    · have hold : ∀ j u, (encPs M)[j]? = some u → w.cell? ((⟨g, 0, none⟩ : Addr).add j) = some u := by
        intro j u hu
        have hj : j < M.length * 2 := by have := (List.getElem?_eq_some_iff.1 hu).1; rw [encPs_len'] at this; exact this
        obtain ⟨q, b, hb, rfl⟩ : ∃ q b, b < 2 ∧ j = q * 2 + b := ⟨j / 2, j % 2, Nat.mod_lt _ (by omega), by omega⟩
        have hq : q < M.length := by omega
        rw [add0, hcell, ← hu]
        rcases (by omega : b = 0 ∨ b = 1) with rfl | rfl
        · simp only [Nat.add_zero]
          rw [(h5 q hq).1, (encPs_at hq).1]
        · rw [(h5 q hq).2, (encPs_at hq).2]
      obtain ⟨v', w', hrun, r1, r2⟩ := run_append_arg_grows (P := Try.prog) w 29 o.type 28 ti (.agg #[.int .i64 0, .int .i64 0]) 2 16 Try.underlying29 t1 t2 t3 t4 rfl (by decide) ⟨g, 0, none⟩ M.length cap (encPs M) (encPs_len' M) hold ⟨N, 0, none⟩ 1 1 [.int .i64 (p.1 : Int), .int .i64 (p.2 : Int)] rfl hnew (by omega) (by unfold maxLen; omega) (by omega)
      unfold Oper.wp
      simp only [execOp, hop, resolve, invoke, builtin, Sem.run_bind, Sem.run_pure, Result.andThen_ok, List.map_toArray, List.map_cons, List.map_nil, hs, hx, hrun]
      exact hK v' w' (pr_of_row (base := w.heap.size) (by rw [encPs_app, List.length_append]; exact r1)) (fun g hg => .inr (r1.lt g hg).1) ⟨r2.os, r2.tape, r2.output, r2.size, fun k hk _ => r2.block k hk (by simp)⟩
/-- the marks beside the book -/
structure Ms (n0 : Nat) (wr : World) (F : Nat → Prop) (Mb : Nat) (v : Value) (M : List (Nat × Nat)) : Prop where
  at_ : wr.heap[Mb]? = some (.cells #[v] 65 (0, 0))
  pr : PR wr v M
  lo : n0 ≤ Mb
  nf : ¬ F Mb
  vb : ∀ g, v.ownBlock = some g → n0 ≤ g ∧ ¬ F g ∧ g ≠ Mb
section
variable {n0 : Nat} {w w' : World} {F F' : Nat → Prop} {Mb B : Nat} {v v' : Value} {M M' : List (Nat × Nat)} {bk : List (Option Lst)}
theorem Ms.lt (h : Ms n0 w F Mb v M) : Mb < w.heap.size := (Array.getElem?_eq_some_iff.1 h.at_).1
theorem Ms.ext (h : Ms n0 w F Mb v M) (hE : Ext F w F' w') : Ms n0 w' F' Mb v M := by
  have hnew : ∀ b, b < w.heap.size → ¬ F b → ¬ F' b := fun b hb hf hf' => by
    rcases hE.new b hf' with h1 | h1
    · exact hf h1
    · omega
  exact ⟨(hE.mod.block Mb h.lt h.nf).trans h.at_, h.pr.keep (fun g hg => hE.mod.block g (h.pr.lt g hg) (h.vb g hg).2.1), h.lo, hnew _ h.lt h.nf, fun g hg => ⟨(h.vb g hg).1, hnew _ (h.pr.lt g hg) (h.vb g hg).2.1, (h.vb g hg).2.2⟩⟩
theorem Ms.mr (h : Ms n0 w F Mb v M) (hB : Book w F B bk) (hn : n0 ≤ w.heap.size) (hm : Mr w w' Mb v v' M') : Ms n0 w' F Mb v' M' ∧ Book w' F B bk := by
  refine ⟨⟨hm.at_, hm.pr, h.lo, h.nf, fun g hg => ?_⟩, hB.keep hm.mod.size (fun b hb => hm.mod.block b (hB.lt b hb) (fun e => h.nf (by rw [← e]; exact hb)))⟩
  rcases hm.from_ g hg with h1 | h1
  · exact h.vb g h1
  · exact ⟨Nat.le_trans hn h1, fun hf => by have := hB.lt g hf; omega, fun e => by have := h.lt; omega⟩
/-- what follow may touch -/
structure Fr (w : World) (F : Nat → Prop) (Mb : Nat) (v : Value) (w' : World) (F' : Nat → Prop) : Prop where
  mod : Mod (fun b => F b ∨ b = Mb ∨ v.ownBlock = some b) w w'
  new : ∀ b, F' b → F b ∨ w.heap.size ≤ b
theorem Fr.of_ext (hE : Ext F w F' w') : Fr w F Mb v w' F' :=
  ⟨⟨hE.mod.os, hE.mod.tape, hE.mod.output, hE.mod.size, fun b hb hf => hE.mod.block b hb (fun h => hf (.inl h))⟩, hE.new⟩
theorem Fr.mr {w1 w2 : World} {F1 : Nat → Prop} {v1 : Value} (h : Fr w F Mb v w1 F1) (hm : Mr w1 w2 Mb v1 v' M') : Fr w F Mb v w2 F1 := by
  refine ⟨⟨hm.mod.os.trans h.mod.os, hm.mod.tape.trans h.mod.tape, hm.mod.output.trans h.mod.output, Nat.le_trans h.mod.size hm.mod.size, fun b hb hf => (hm.mod.block b (Nat.lt_of_lt_of_le hb h.mod.size) (fun e => hf (.inr (.inl e)))).trans (h.mod.block b hb hf)⟩, h.new⟩
theorem Fr.below {w1 w2 : World} {F1 : Nat → Prop} (h : Fr w F Mb v w1 F1) (hb : Below w1.heap.size w1 w2) : Fr w F Mb v w2 F1 :=
  ⟨⟨hb.os.trans h.mod.os, hb.tape.trans h.mod.tape, hb.output.trans h.mod.output, Nat.le_trans h.mod.size hb.size, fun b hlt hf => (hb.block b (Nat.lt_of_lt_of_le hlt h.mod.size)).trans (h.mod.block b hlt hf)⟩, h.new⟩
end
end Go.Proofs.Ytimfgjndgfjjgaa
