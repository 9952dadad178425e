import Derived.Test.YtimfgjndgfjjgaaXI
import Derived.Test.YtimfgjndgfjjgaaV2
namespace Go.Proofs.Ytimfgjndgfjjgaa
open Go.RowKit Go.Shelf

/-- what is in the second book lies in the first, but for its parent -/
def Subk (bk bk' : List (Option Lst)) : Prop := ∀ (a b : Nat) (q : Rc), atB bk' (a : Int) (b : Int) = some q → ∃ p, atB bk (a : Int) (b : Int) = some p ∧ p.k = q.k ∧ p.o = q.o ∧ p.s = q.s ∧ p.r = q.r
theorem Subk.refl (bk : List (Option Lst)) : Subk bk bk := fun _ _ q h => ⟨q, h, rfl, rfl, rfl, rfl⟩
theorem Subk.trans {x y z : List (Option Lst)} (h : Subk x y) (k : Subk y z) : Subk x z := by
  intro a b q hq
  obtain ⟨p, h1, e1, e2, e3, e4⟩ := k a b q hq
  obtain ⟨p', h2, g1, g2, g3, g4⟩ := h a b p h1
  exact ⟨p', h2, g1.trans e1, g2.trans e2, g3.trans e3, g4.trans e4⟩
theorem Subk.congr {bk bk' : List (Option Lst)} (hv : ∀ a b : Nat, atB bk' (a : Int) (b : Int) = atB bk (a : Int) (b : Int)) : Subk bk bk' := fun a b q h => ⟨q, by rw [← hv]; exact h, rfl, rfl, rfl, rfl⟩
theorem subk_drop {bk bk' : List (Option Lst)} {i j : Nat} {r : Rc} (hd : DropR bk i j r bk') : Subk bk bk' := by
  intro a b q hq
  rw [hd.2] at hq
  split at hq
  · cases hq
  · obtain ⟨p, hp, rfl⟩ := Option.map_eq_some_iff.1 hq
    obtain ⟨e1, e2, e3, e4⟩ := rp_same i j r p
    exact ⟨p, hp, e1.symm, e2.symm, e3.symm, e4.symm⟩
theorem subk_drops {bk bk' : List (Option Lst)} {ps : List (Nat × Nat)} (hd : Drops ps bk bk') : Subk bk bk' := by
  induction hd using Drops.ind with
  | nil => exact Subk.refl _
  | snoc _ hr hd ih => exact ih.trans (subk_drop hd)
theorem subk_rmv {bk : List (Option Lst)} {ps : List (Nat × Nat)} (hn : ps.Nodup) (hex : ∀ p ∈ ps, ∃ r, atB bk (p.1 : Int) (p.2 : Int) = some r) : Subk bk (rmv bk ps) := by
  intro a b q hq
  rw [(rmv_at ps bk hn hex).2] at hq
  split at hq
  · cases hq
  · exact ⟨q, hq, rfl, rfl, rfl, rfl⟩
/-- one more was laid -/
def Laid (bk bk' : List (Option Lst)) (r : Rc) : Prop := ∃ i k : Nat, atB bk (i : Int) (k : Int) = none ∧ ∀ a b : Nat, atB bk' (a : Int) (b : Int) = if a = i ∧ b = k then some r else atB bk (a : Int) (b : Int)
theorem derive_eff {bk bk' : List (Option Lst)} {e s t a rt v c : Int} (h48 : ∀ (i : Nat) (l : Lst), bk[i]? = some (some l) → l.length = 48) (hm : DeriveR bk e s t a rt v c bk') : bk' = bk ∨ ∃ p, atB bk e s = some p ∧ okR rt p = true ∧ 0 ≤ rt ∧ rt ≤ 15 ∧ Laid bk bk' ⟨p.k, p.o, p.s, rt, e, s⟩ := by
  rcases hm with ⟨_, _, _, rfl⟩ | ⟨_, _, _, _, rfl⟩ | ⟨_, _, _, _, _, rfl⟩ | ⟨_, _, _, _, _, _, rfl⟩ | ⟨i, l, l', r, _, hl, hr, hok, _, hrt, hy, rfl⟩
  · exact .inl rfl
  · exact .inl rfl
  · exact .inl rfl
  · exact .inl rfl
  · rcases lay_view hl (h48 i l hl) hy with ⟨k, _, _, _, hf, _, _, _, hv⟩ | ⟨_, _, e, _⟩
    · exact .inr ⟨r, hr, hok, hrt.1, hrt.2, i, k, hf, hv⟩
    · exact .inl e
theorem Step.eff {o : Opr} {bk bk' : List (Option Lst)} {f : Int → Int → Nat} (hf : Rk bk f) (h48 : ∀ (i : Nat) (l : Lst), bk[i]? = some (some l) → l.length = 48) (hs : Step o bk bk') (hq : o.q ≠ 3) :
    Subk bk bk' ∨ ∃ p, atB bk o.e o.s = some p ∧ okR o.r p = true ∧ 0 ≤ o.r ∧ o.r ≤ 15 ∧ Laid bk bk' ⟨p.k, p.o, p.s, o.r, o.e, o.s⟩ := by
  cases hs using Step.ind with
  | none => exact .inl (Subk.refl _)
  | opn _ ho =>
    have ho' := ho
    rcases ho with ⟨k, hk, h1, rfl, rfl⟩ | ⟨_, rfl, _⟩
    · rw [hk] at ho'
      exact .inl (Subk.congr (open_view (List.getElem?_eq_some_iff.1 h1).1 (by rw [look_nat, h1]; rfl) ho').2.1)
    · exact .inl (Subk.refl _)
  | shut0 => exact .inl (Subk.refl _)
  | shut _ _ hl hd => exact .inl ((subk_drops hd).trans (Subk.congr (shut_view hl hd)))
  | mint h _ => exact (hq h).elim
  | derive _ hm =>
    rcases derive_eff h48 hm with rfl | h
    · exact .inl (Subk.refl _)
    · exact .inr h
  | drop0 => exact .inl (Subk.refl _)
  | drop _ _ _ hr hd => exact .inl (subk_drop hd)
  | revoke0 => exact .inl (Subk.refl _)
  | revoke _ _ _ _ hd _ hp => exact .inl (subk_rmv (hp.nodup_iff.2 (bel_nodup hf _ _)) (fun p hq => bel_mem _ (hp.mem_iff.1 hq)))
  | purge => exact .inl (subk_rmv (pls_nodup _ _) (fun p hp => by obtain ⟨r, hr, _⟩ := mem_pls.1 (show (p.1, p.2) ∈ _ from hp); exact ⟨r, hr⟩))
/-- nothing has grown -/
def Ng (r : Int) (bk : List (Option Lst)) : Prop := ∀ (a b : Nat) (q : Rc), atB bk (a : Int) (b : Int) = some q →
  (q.k = 2 ∧ q.o = 3 ∧ q.s = 11 ∧ bits .and .i64 q.r r = q.r ∧ Rt q) ∧ ((bits .and .i64 r 4 == 0) = true → a = 0 ∧ b = 0)
theorem ng16 : ∀ x p r : Fin 16, (bits .andNot .i64 (bits .or .i64 (x.val : Int) 4) (p.val : Int) == 0) = true → bits .and .i64 (p.val : Int) (r.val : Int) = (p.val : Int) → bits .and .i64 (x.val : Int) (r.val : Int) = (x.val : Int) ∧ (bits .and .i64 (r.val : Int) 4 == 0) = false := by decide
theorem ng_bits {x r : Int} {p : Rc} (hx : 0 ≤ x ∧ x ≤ 15) (hp : Rt p) (hr : 0 ≤ r ∧ r ≤ 15) (h1 : okR x p = true) (h2 : bits .and .i64 p.r r = p.r) : bits .and .i64 x r = x ∧ (bits .and .i64 r 4 == 0) = false := by
  have h := ng16 ⟨x.toNat, by omega⟩ ⟨p.r.toNat, by have := hp.1; have := hp.2; omega⟩ ⟨r.toNat, by omega⟩
  have e1 : ((x.toNat : Nat) : Int) = x := by omega
  have e2 : ((p.r.toNat : Nat) : Int) = p.r := by have := hp.1; omega
  have e3 : ((r.toNat : Nat) : Int) = r := by omega
  simp only [e1, e2, e3] at h
  exact h h1 h2
theorem Ng.sub {r : Int} {bk bk' : List (Option Lst)} (h : Ng r bk) (hs : Subk bk bk') : Ng r bk' := by
  intro a b q hq
  obtain ⟨p, hp, e1, e2, e3, e4⟩ := hs a b q hq
  obtain ⟨⟨g1, g2, g3, g4, g5⟩, g6⟩ := h a b p hp
  unfold Rt at g5 ⊢
  rw [e1] at g1
  rw [e2] at g2
  rw [e3] at g3
  rw [e4] at g4 g5
  exact ⟨⟨g1, g2, g3, g4, g5⟩, g6⟩
theorem Ng.laid {r x : Int} (hr : 0 ≤ r ∧ r ≤ 15) {bk bk' : List (Option Lst)} (h : Ng r bk) {e s : Int} {p : Rc} (hp : atB bk e s = some p) (hok : okR x p = true) (hx : 0 ≤ x ∧ x ≤ 15) (hl : Laid bk bk' ⟨p.k, p.o, p.s, x, e, s⟩) : Ng r bk' := by
  obtain ⟨i, k, hf, hv⟩ := hl
  obtain ⟨a', b', _, rfl, rfl, _, _, _⟩ := atB_some hp
  obtain ⟨⟨g1, g2, g3, g4, g5⟩, _⟩ := h a' b' p hp
  obtain ⟨n1, n2⟩ := ng_bits hx g5 hr hok g4
  intro a b q hq
  rw [hv] at hq
  split at hq
  · cases hq
    exact ⟨⟨g1, g2, g3, n1, hx⟩, fun e => by rw [n2] at e; cases e⟩
  · exact h a b q hq
theorem Ng.step {r : Int} (hr : 0 ≤ r ∧ r ≤ 15) {o : Opr} {bk bk' : List (Option Lst)} {f : Int → Int → Nat} (h : Ng r bk) (hf : Rk bk f) (h48 : ∀ (i : Nat) (l : Lst), bk[i]? = some (some l) → l.length = 48) (hs : Step o bk bk') (hq : o.q ≠ 3) : Ng r bk' := by
  rcases hs.eff hf h48 hq with h1 | ⟨p, h1, h2, h3, h4, h5⟩
  · exact h.sub h1
  · exact h.laid hr h1 h2 ⟨h3, h4⟩ h5
theorem and_self16 : ∀ r : Fin 16, bits .and .i64 (r.val : Int) (r.val : Int) = (r.val : Int) := by decide
theorem Begun.ng {bk : List (Option Lst)} {r : Int} (hr : 0 ≤ r ∧ r ≤ 15) (h : Begun bk 2 3 11 r) : Ng r bk := by
  intro a b q hq
  rw [h.at0] at hq
  split at hq
  · rename_i e
    cases hq
    have h2 := and_self16 ⟨r.toNat, by omega⟩
    have e1 : ((r.toNat : Nat) : Int) = r := by omega
    simp only [e1] at h2
    exact ⟨⟨rfl, rfl, rfl, h2, hr⟩, fun _ => e⟩
  · cases hq
theorem Begun.snd {bk : List (Option Lst)} {k o s r : Int} (hr : 0 ≤ r ∧ r ≤ 15) (h : Begun bk k o s r) : Snd bk (fun _ _ => 0) := by
  intro e s q hq
  obtain ⟨a, b, _, rfl, rfl, _, _, _⟩ := atB_some hq
  rw [h.at0] at hq
  split at hq
  · cases hq; exact ⟨hr, .inl ⟨rfl, rfl⟩⟩
  · cases hq
theorem mem_hl {bk : List (Option Lst)} {n : Nat} {y : Int × (Nat × Rc)} (h : y ∈ hl bk n) : ∃ i : Nat, i < n ∧ y.1 = i ∧ atB bk (i : Int) (y.2.1 : Int) = some y.2.2 := by
  obtain ⟨i, hi, hy⟩ := List.mem_flatMap.1 h
  obtain ⟨x, hx, rfl⟩ := List.mem_map.1 hy
  refine ⟨i, List.mem_range.1 hi, rfl, ?_⟩
  have h2 := prs_mem.1 (show (x.1, x.2) ∈ _ from hx)
  unfold lf at h2
  cases hl : look bk (i : Int) with
  | none => rw [hl] at h2; simp at h2
  | some l =>
    rw [hl] at h2
    unfold atB
    rw [hl]
    show look l (x.1 : Int) = some x.2
    rw [look_nat]
    simp at h2
    rw [h2]; rfl
theorem Ng.one {r : Int} {bk : List (Option Lst)} (h : Ng r bk) (hr : (bits .and .i64 r 4 == 0) = true) : ∀ n, (hl bk n).length ≤ 1 := by
  have h0 : ∀ i, 0 < i → prs (lf bk i) 0 = [] := by
    intro i hi
    refine List.eq_nil_iff_forall_not_mem.2 fun x hx => ?_
    have hm : ((i : Int), x) ∈ hl bk (i + 1) := by rw [hl_succ]; exact List.mem_append_right _ (List.mem_map.2 ⟨x, hx, rfl⟩)
    obtain ⟨j, _, e1, e2⟩ := mem_hl hm
    obtain rfl : i = j := by have e2 : (i : Int) = j := e1; omega
    have := (h i x.1 x.2 e2).2 hr
    omega
  have h1 : (prs (lf bk 0) 0).length ≤ 1 := by
    have hs := prsL_sorted (lf bk 0) 0
    have hz : ∀ x ∈ prs (lf bk 0) 0, x.1 = 0 := by
      intro x hx
      have hm : ((0 : Int), x) ∈ hl bk 1 := by rw [hl_succ]; exact List.mem_append_right _ (List.mem_map.2 ⟨x, hx, rfl⟩)
      obtain ⟨j, _, e1, e2⟩ := mem_hl hm
      obtain rfl : 0 = j := by simp at e1; omega
      exact ((h 0 x.1 x.2 e2).2 hr).2
    have e : prs (lf bk 0) 0 = prsL 0 (lf bk 0) := rfl
    rw [e] at hz ⊢
    match hq : prsL 0 (lf bk 0) with
    | [] => simp
    | [x] => simp
    | x :: y :: t =>
      rw [hq] at hs hz
      have h2 := (List.pairwise_cons.1 hs).1 y (by simp)
      have h3 := hz x (by simp)
      have h4 := hz y (by simp)
      omega
  intro n
  cases n with
  | zero => simp [hl]
  | succ n =>
    have : ∀ n, hl bk (n + 1) = hl bk 1 := by
      intro n
      induction n with
      | zero => rfl
      | succ n ih => rw [hl_succ, ih, h0 (n + 1) (by omega)]; simp
    rw [this]
    simpa [hl] using h1
/-- the first Derive of CapsNeverGrow -/
theorem derive_ng {bk bk' : List (Option Lst)} {r v c : Int} (hr : 0 ≤ r ∧ r ≤ 15) (h : Begun bk 2 3 11 r) (h48 : ∀ (i : Nat) (l : Lst), bk[i]? = some (some l) → l.length = 48) (hD : DeriveR bk 0 0 1 (-1) r v c bk') :
    ((bits .and .i64 r 4 == 0) = true ∧ v = -1 ∧ c = 81 ∨ (bits .and .i64 r 4 == 0) = false ∧ v = 0 ∧ c = 0) ∧ Ng r bk' ∧ ∃ f, Snd bk' f := by
  have h0 : atB bk 0 0 = some ⟨2, 3, 11, r, -1, -1⟩ := by have := h.at0 0 0; simpa using this
  obtain ⟨l0, hl0, hlk⟩ := look_len (i := 1) (by rw [h.four]; rfl)
  rw [show ((1 : Nat) : Int) = 1 from rfl] at hlk
  have hstep : Step ⟨4, 0, 0, 1, -1, r, 0, 0, 0, 0⟩ bk bk' := .derive rfl hD
  have hfin : Ng r bk' ∧ ∃ f, Snd bk' f := ⟨(h.ng hr).step hr (h.snd hr).rk h48 hstep (show (4 : Int) ≠ 3 by decide), hstep.snd (h.snd hr) h48⟩
  refine ⟨?_, hfin⟩
  rcases hD with ⟨h1, _⟩ | ⟨_, h1, _⟩ | ⟨_, _, h1, _⟩ | ⟨_, ⟨q, h1, h2⟩, _, _, rfl, rfl, _⟩ | ⟨i, l, l', q, hi, h3, h4, h5, _, _, h6, rfl⟩
  · rw [hlk] at h1; cases h1
  · rw [h0] at h1; cases h1
  · omega
  · rw [h0] at h1; cases h1
    refine .inl ⟨?_, rfl, rfl⟩
    cases hg : (bits .and .i64 r 4 == 0)
    · rw [okR_self r hr.1 hr.2 hg _ rfl] at h2; cases h2
    · rfl
  · obtain rfl : i = 1 := by omega
    rw [h0] at h4; cases h4
    have hg := (ng_bits hr (p := ⟨2, 3, 11, r, -1, -1⟩) hr hr h5 (((h.ng hr) 0 0 _ h0).1.2.2.2.1)).2
    refine .inr ⟨hg, ?_⟩
    rcases lay_view h3 (h48 1 l h3) h6 with ⟨p, hp, rfl, rfl, _, hlow, _, hsh, hat⟩ | ⟨_, _, _, h7⟩
    · have hp0 : p = 0 := by
        rcases Nat.eq_zero_or_pos p with e | e
        · exact e
        · refine (hlow (by omega) 0 e ?_).elim
          have := h.at0 1 0; simpa using this
      subst hp0
      exact ⟨rfl, rfl⟩
    · rcases h7 with ⟨_, h8⟩ | h8 | ⟨h8, _⟩
      · refine (h8 0 (by omega) ?_).elim
        have := h.at0 1 0; simpa using this
      · omega
      · omega
end Go.Proofs.Ytimfgjndgfjjgaa
