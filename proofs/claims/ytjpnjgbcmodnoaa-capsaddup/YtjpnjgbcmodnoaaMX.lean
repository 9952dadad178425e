import Derived.Test.YtjpnjgbcmodnoaaXD
import Derived.Test.YtjpnjgbcmodnoaaU1
import Derived.Laws.AppendOwnNone
namespace Go.Proofs.Ytjpnjgbcmodnoaa
open Go.RowKit Go.Shelf

/-- what a parent is to its child -/
def Par (p r : Rc) : Prop := p.k = r.k ∧ p.o = r.o ∧ p.s = r.s ∧ okR r.r p = true
def Rt (r : Rc) : Prop := 0 ≤ r.r ∧ r.r ≤ 15
theorem ok16 : ∀ a b c : Fin 16, (bits .andNot .i64 (bits .or .i64 (a.val : Int) 4) (b.val : Int) == 0) = true → (bits .andNot .i64 (bits .or .i64 (b.val : Int) 4) (c.val : Int) == 0) = true → (bits .andNot .i64 (bits .or .i64 (a.val : Int) 4) (c.val : Int) == 0) = true := by decide
theorem okR_trans {x : Int} {q p : Rc} (hx : 0 ≤ x ∧ x ≤ 15) (hq : Rt q) (hp : Rt p) (h1 : okR x q = true) (h2 : okR q.r p = true) : okR x p = true := by
  have h := ok16 ⟨x.toNat, by omega⟩ ⟨q.r.toNat, by have := hq.1; have := hq.2; omega⟩ ⟨p.r.toNat, by have := hp.1; have := hp.2; omega⟩
  have e1 : ((x.toNat : Nat) : Int) = x := by omega
  have e2 : ((q.r.toNat : Nat) : Int) = q.r := by have := hq.1; omega
  have e3 : ((p.r.toNat : Nat) : Int) = p.r := by have := hp.1; omega
  simp only [e1, e2, e3] at h
  exact h h1 h2
theorem Par.trans {p q r : Rc} (hr : Rt r) (hq : Rt q) (hp : Rt p) (h : Par p q) (k : Par q r) : Par p r :=
  ⟨h.1.trans k.1, h.2.1.trans k.2.1, h.2.2.1.trans k.2.2.1, okR_trans hr hq hp k.2.2.2 h.2.2.2⟩
/-- all that is asked of a book -/
def Snd (bk : List (Option Lst)) (f : Int → Int → Nat) : Prop :=
  ∀ e s r, atB bk e s = some r → Rt r ∧ ((r.e = -1 ∧ r.t = -1) ∨ ∃ p, atB bk r.e r.t = some p ∧ Par p r ∧ f r.e r.t < f e s)
theorem Snd.rk {bk : List (Option Lst)} {f : Int → Int → Nat} (h : Snd bk f) : Rk bk f := fun e s r hr => by
  rcases (h e s r hr).2 with h1 | ⟨p, h1, _, h2⟩
  · exact .inl h1
  · exact .inr ⟨⟨p, h1⟩, h2⟩
/-- where no child stays of one that goes -/
theorem Snd.rmv {bk : List (Option Lst)} {f : Int → Int → Nat} (h : Snd bk f) {ps : List (Nat × Nat)} (hn : ps.Nodup) (hex : ∀ p ∈ ps, ∃ r, atB bk (p.1 : Int) (p.2 : Int) = some r)
    (hcl : ∀ p ∈ ps, ∀ (a b : Nat) (r : Rc), atB bk (a : Int) (b : Int) = some r → r.e = (p.1 : Int) → r.t = (p.2 : Int) → (a, b) ∈ ps) : Snd (rmv bk ps) f := by
  intro e s r hr
  obtain ⟨_, hat⟩ := rmv_at ps bk hn hex
  obtain ⟨i, j, _, rfl, rfl, _, _, _⟩ := atB_some hr
  rw [hat] at hr
  split at hr
  · cases hr
  · rename_i hni
    obtain ⟨h1, h2 | ⟨p, h2, h3, h4⟩⟩ := h _ _ _ hr
    · exact ⟨h1, .inl h2⟩
    · obtain ⟨i', j', _, e1, e2, _, _, _⟩ := atB_some h2
      refine ⟨h1, .inr ⟨p, ?_, h3, h4⟩⟩
      rw [e1, e2] at h2 ⊢
      rw [hat, if_neg]
      · exact h2
      · intro hin
        exact hni (hcl _ hin i j r hr e1 e2)
theorem bel_child {bk : List (Option Lst)} : ∀ (n : Nat) {p x c : Nat × Nat}, Dep n bk p → x ∈ bel n bk p → c ∈ pls (chP x.1 x.2) bk → c ∈ bel n bk p
  | 0, _, _, _, hd, _, _ => hd.elim
  | n + 1, p, x, c, hd, hx, hc => by
    obtain ⟨d, h1, h2⟩ := List.mem_flatMap.1 hx
    refine List.mem_flatMap.2 ⟨d, h1, ?_⟩
    have hdd : Dep n bk d := hd d h1
    rcases List.mem_cons.1 h2 with rfl | h2
    · refine List.mem_cons_of_mem _ ?_
      cases n with
      | zero => exact hdd.elim
      | succ n => exact List.mem_flatMap.2 ⟨c, hc, List.mem_cons_self⟩
    · exact List.mem_cons_of_mem _ (bel_child n hdd h2 hc)
theorem Snd.purge {bk : List (Option Lst)} {f : Int → Int → Nat} (h : Snd bk f) (k o : Int) : Snd (Go.Proofs.Ytjpnjgbcmodnoaa.rmv bk (pls (fun r => decide (r.k = k) && decide (r.o = o)) bk)) f := by
  refine h.rmv (pls_nodup _ _) (fun p hp => ?_) (fun p hp a b r hr e1 e2 => ?_)
  · obtain ⟨r, hr, _⟩ := mem_pls.1 (show (p.1, p.2) ∈ _ from hp)
    exact ⟨r, hr⟩
  · obtain ⟨q, hq, hq2⟩ := mem_pls.1 (show (p.1, p.2) ∈ _ from hp)
    obtain ⟨_, h2 | ⟨p', h2, h3, _⟩⟩ := h _ _ _ hr
    · omega
    · rw [e1, e2, hq] at h2
      cases h2
      refine mem_pls.2 ⟨r, hr, ?_⟩
      simp only [h3.1, h3.2.1] at hq2
      exact hq2
theorem Snd.revoke {bk : List (Option Lst)} {f : Int → Int → Nat} (h : Snd bk f) {i j n : Nat} {ps : List (Nat × Nat)} (hd : Dep n bk (i, j)) (hp : List.Perm ps (bel n bk (i, j))) : Snd (Go.Proofs.Ytjpnjgbcmodnoaa.rmv bk ps) f := by
  refine h.rmv (hp.nodup_iff.2 (bel_nodup h.rk n (i, j))) (fun p hq => bel_mem n (hp.mem_iff.1 hq)) (fun p hq a b r hr e1 e2 => hp.mem_iff.2 (bel_child n hd (hp.mem_iff.1 hq) ?_))
  exact mem_pls.2 ⟨r, hr, by simp [chP, e1, e2]⟩
end Go.Proofs.Ytjpnjgbcmodnoaa

namespace Go.Proofs.Ytjpnjgbcmodnoaa
open Go.RowKit Go.Shelf

theorem rp_same (i j : Nat) (r0 r : Rc) : (rp i j r0 r).k = r.k ∧ (rp i j r0 r).o = r.o ∧ (rp i j r0 r).s = r.s ∧ (rp i j r0 r).r = r.r := by
  unfold rp rq
  split <;> exact ⟨rfl, rfl, rfl, rfl⟩
theorem par_rp {i j : Nat} {r0 p r : Rc} (h : Par p r) : Par (rp i j r0 p) r := by
  obtain ⟨e1, e2, e3, e4⟩ := rp_same i j r0 p
  obtain ⟨h1, h2, h3, h4⟩ := h
  refine ⟨e1.trans h1, e2.trans h2, e3.trans h3, ?_⟩
  unfold okR at h4 ⊢
  rw [e4]; exact h4
theorem Snd.drop {bk bk' : List (Option Lst)} {f : Int → Int → Nat} (h : Snd bk f) {i j : Nat} {r0 : Rc} (hr0 : atB bk (i : Int) (j : Int) = some r0) (hd : DropR bk i j r0 bk') : Snd bk' f := by
  have look' : ∀ {x y : Int} {p : Rc}, atB bk x y = some p → ¬ (x = i ∧ y = j) → atB bk' x y = some (rp i j r0 p) := by
    intro x y p hp hne
    obtain ⟨a, b, _, rfl, rfl, _, _, _⟩ := atB_some hp
    rw [hd.2, if_neg (fun e => hne ⟨by rw [e.1], by rw [e.2]⟩), hp]; rfl
  intro e s r hr
  obtain ⟨a, b, _, rfl, rfl, _, _, _⟩ := atB_some hr
  rw [hd.2] at hr
  split at hr
  · cases hr
  · obtain ⟨q, hq, rfl⟩ := Option.map_eq_some_iff.1 hr
    obtain ⟨h1, h2⟩ := h _ _ _ hq
    have hR : Rt (rp i j r0 q) := by unfold Rt; rw [(rp_same i j r0 q).2.2.2]; exact h1
    refine ⟨hR, ?_⟩
    by_cases c : q.e = i ∧ q.t = j
    · have er : rp i j r0 q = rq r0.e r0.t q := by unfold rp; rw [if_pos c]
      rw [er]
      rcases h2 with h2 | ⟨p, h2, h3, h4⟩
      · omega
      · rw [c.1, c.2] at h2 h4
        rw [hr0] at h2; cases h2
        obtain ⟨g1, g2 | ⟨p', g2, g3, g4⟩⟩ := h _ _ _ hr0
        · exact .inl g2
        · refine .inr ⟨_, look' g2 (fun e => by have e' : r0.e = i ∧ r0.t = j := e; rw [e'.1, e'.2] at g4; omega), par_rp (i := i) (j := j) (r0 := r0) ?_, ?_⟩
          · exact Par.trans (q := r0) h1 g1 (h _ _ _ g2).1 g3 h3
          · show f r0.e r0.t < _
            omega
    · have er : rp i j r0 q = q := by unfold rp; rw [if_neg c]
      rw [er]
      rcases h2 with h2 | ⟨p, h2, h3, h4⟩
      · exact .inl h2
      · exact .inr ⟨_, look' h2 c, par_rp h3, h4⟩
theorem Snd.drops {bk bk' : List (Option Lst)} {f : Int → Int → Nat} (h : Snd bk f) {ps : List (Nat × Nat)} (hd : Drops ps bk bk') : Snd bk' f := by
  induction hd using Drops.ind with
  | nil => exact h
  | snoc _ hr hd ih => exact (ih h).drop hr hd
/-- one more at a free slot, under a parent or under none -/
theorem Snd.lay {bk bk' : List (Option Lst)} {f : Int → Int → Nat} (h : Snd bk f) {i k : Nat} {r : Rc} (hfree : atB bk (i : Int) (k : Int) = none) (hv : ∀ a b : Nat, atB bk' (a : Int) (b : Int) = if a = i ∧ b = k then some r else atB bk (a : Int) (b : Int)) (hR : Rt r)
    (hp : (r.e = -1 ∧ r.t = -1) ∨ ∃ p, atB bk r.e r.t = some p ∧ Par p r) : ∃ f', Snd bk' f' := by
  have up : ∀ {x y : Int} {p : Rc}, atB bk x y = some p → atB bk' x y = some p ∧ ¬ (x = i ∧ y = k) := by
    intro x y p hp
    have hne : ¬ (x = i ∧ y = k) := fun e => by rw [e.1, e.2, hfree] at hp; cases hp
    obtain ⟨a, b, _, rfl, rfl, _, _, _⟩ := atB_some hp
    rw [hv, if_neg (fun e => hne ⟨by rw [e.1], by rw [e.2]⟩)]
    exact ⟨hp, hne⟩
  refine ⟨fun x y => if x = i ∧ y = k then f r.e r.t + 1 else f x y, ?_⟩
  intro e s q hq
  obtain ⟨a, b, _, rfl, rfl, _, _, _⟩ := atB_some hq
  rw [hv] at hq
  split at hq
  · rename_i hab
    cases hq
    refine ⟨hR, ?_⟩
    rcases hp with hp | ⟨p, h1, h2⟩
    · exact .inl hp
    · obtain ⟨h3, h4⟩ := up h1
      refine .inr ⟨p, h3, h2, ?_⟩
      dsimp only
      rw [if_neg h4, if_pos ⟨by rw [hab.1], by rw [hab.2]⟩]
      omega
  · rename_i hab
    obtain ⟨h1, h2 | ⟨p, h2, h3, h4⟩⟩ := h _ _ _ hq
    · exact ⟨h1, .inl h2⟩
    · obtain ⟨h5, h6⟩ := up h2
      refine ⟨h1, .inr ⟨p, h5, h3, ?_⟩⟩
      dsimp only
      rw [if_neg h6, if_neg (fun e => hab ⟨by omega, by omega⟩)]
      exact h4
end Go.Proofs.Ytjpnjgbcmodnoaa

namespace Go.Proofs.Ytjpnjgbcmodnoaa
open Go.RowKit

theorem look_len {bk : List (Option Lst)} {i : Nat} (h : (look bk (i : Int)).isSome = true) : ∃ l, bk[i]? = some (some l) ∧ look bk (i : Int) = some l := by
  rw [look_nat] at h ⊢
  cases hb : bk[i]? with
  | none => rw [hb] at h; cases h
  | some o =>
    cases o with
    | none => rw [hb] at h; cases h
    | some l => exact ⟨l, rfl, rfl⟩
theorem look_free {bk : List (Option Lst)} {i : Nat} (hi : i < bk.length) (h : (look bk (i : Int)).isSome = false) : bk[i]? = some none := by
  rw [look_nat] at h
  rw [List.getElem?_eq_getElem hi] at h ⊢
  cases hb : bk[i] with
  | none => rfl
  | some l => rw [hb] at h; cases h
/-- what Open leaves -/
theorem open_view {bk bk' : List (Option Lst)} {i : Nat} {c : Int} (hi : i < bk.length) (h : (look bk (i : Int)).isSome = false) (ho : OpenR bk i c bk') :
    c = 0 ∧ (∀ a b : Nat, atB bk' (a : Int) (b : Int) = atB bk (a : Int) (b : Int)) ∧ ∀ x : Nat, (look bk' (x : Int)).isSome = ((look bk (x : Int)).isSome || decide (x = i)) := by
  have hf := look_free hi h
  rcases ho with ⟨k, hk, h1, rfl, rfl⟩ | ⟨_, _, h1⟩
  · obtain rfl : i = k := by omega
    refine ⟨rfl, fun a b => ?_, fun x => ?_⟩
    · unfold atB
      rw [look_nat, look_nat]
      by_cases e : i = a
      · subst e
        rw [List.getElem?_set_self hi, hf]
        show look (List.replicate 48 none) (b : Int) = none
        rw [look_nat, List.getElem?_replicate]
        split <;> rfl
      · rw [List.getElem?_set_ne e]
    · rw [look_nat, look_nat]
      by_cases e : i = x
      · subst e; rw [List.getElem?_set_self hi]; simp
      · rw [List.getElem?_set_ne e]
        have : ¬ x = i := fun e' => e e'.symm
        simp [this]
  · exact (h1 i rfl hf).elim
/-- what a laying leaves -/
theorem lay_view {bk : List (Option Lst)} {i : Nat} {l l' : Lst} {a v c : Int} {r : Rc} (hl : bk[i]? = some (some l)) (h48 : l.length = 48) (h : LayR l a r v c l') :
    (∃ k : Nat, k < 48 ∧ v = k ∧ c = 0 ∧ atB bk (i : Int) (k : Int) = none ∧ (a < 0 → ∀ j : Nat, j < k → atB bk (i : Int) (j : Int) ≠ none) ∧ (0 ≤ a → a = k) ∧
      Shape bk (bk.set i (some l')) ∧ ∀ x y : Nat, atB (bk.set i (some l')) (x : Int) (y : Int) = if x = i ∧ y = k then some r else atB bk (x : Int) (y : Int)) ∨
    (v = -1 ∧ c ≠ 0 ∧ bk.set i (some l') = bk ∧ ((a < 0 ∧ ∀ j : Nat, j < 48 → atB bk (i : Int) (j : Int) ≠ none) ∨ (0 ≤ a ∧ 48 ≤ a) ∨ (0 ≤ a ∧ ∃ x, atB bk (i : Int) a = some x))) := by
  have hi : i < bk.length := (List.getElem?_eq_some_iff.1 hl).1
  have hlf : lf bk i = l := by unfold lf; rw [look_nat, hl]; rfl
  rcases h with ⟨k, hk, hf, rfl, rfl, rfl, h7⟩ | ⟨rfl, rfl, h7⟩
  · refine .inl ⟨k, by omega, rfl, rfl, by rw [atN_eq hl, hf]; rfl, fun ha j hj => ?_, fun ha => ?_, shape_set hl, fun x y => ?_⟩
    · rcases h7 with ⟨_, rfl⟩ | h7
      · obtain ⟨x, hx⟩ := ff_held hj
        rw [atN_eq hl, hx]; simp
      · omega
    · rcases h7 with ⟨h8, _⟩ | h7
      · omega
      · exact h7
    · have := atB_setAt (o := some r) hl (show k < l.length from hk) x y
      unfold setAt at this
      rw [hlf] at this
      exact this
  · have hself : bk.set i (some l') = bk := by
      obtain ⟨hi2, e2⟩ := List.getElem?_eq_some_iff.1 hl
      rw [← e2]; exact List.set_getElem_self hi2
    rcases h7 with ⟨h8, h9, rfl⟩ | ⟨h8, h9, rfl⟩ | ⟨h8, ⟨x, hx⟩, rfl⟩
    · refine .inr ⟨rfl, by decide, hself, .inl ⟨h8, fun j hj => ?_⟩⟩
      obtain ⟨x, hx⟩ := ff_held (m := l') (j := j) (by omega)
      rw [atN_eq hl, hx]; simp
    · exact .inr ⟨rfl, by decide, hself, .inr (.inl ⟨h8, by omega⟩)⟩
    · refine .inr ⟨rfl, by decide, hself, .inr (.inr ⟨h8, x, ?_⟩)⟩
      unfold atB
      rw [look_nat, hl]
      exact hx
/-- a book in which just the lists 0 to 3 are open -/
def Four (bk : List (Option Lst)) : Prop := ∀ x : Nat, (look bk (x : Int)).isSome = decide (x < 4)
theorem Four.shape {bk bk' : List (Option Lst)} (h : Four bk) (hs : Shape bk bk') : Four bk' := fun x => (hs x).trans (h x)
/-- what begun leaves -/
structure Begun (bk : List (Option Lst)) (k o s r : Int) : Prop where
  four : Four bk
  at0 : ∀ a b : Nat, atB bk (a : Int) (b : Int) = if a = 0 ∧ b = 0 then some ⟨k, o, s, r, -1, -1⟩ else none
theorem okR_self (r : Int) (h0 : 0 ≤ r) (h15 : r ≤ 15) (hg : (bits .and .i64 r 4 == 0) = false) (q : Rc) (hq : q.r = r) : okR r q = true := by
  unfold okR
  rw [hq]
  obtain ⟨n, rfl⟩ : ∃ n : Nat, r = n := ⟨r.toNat, by omega⟩
  have hn : n < 16 := by omega
  have : ∀ m : Fin 16, (bits .and .i64 ((m.val : Nat) : Int) 4 == 0) = false → (bits .andNot .i64 (bits .or .i64 ((m.val : Nat) : Int) 4) ((m.val : Nat) : Int) == 0) = true := by decide
  exact this ⟨n, hn⟩ hg
end Go.Proofs.Ytjpnjgbcmodnoaa

namespace Go.Proofs.Ytjpnjgbcmodnoaa
open Go.RowKit Go.Shelf

theorem Snd.congr {bk bk' : List (Option Lst)} {f : Int → Int → Nat} (h : Snd bk f) (hv : ∀ a b : Nat, atB bk' (a : Int) (b : Int) = atB bk (a : Int) (b : Int)) : Snd bk' f := by
  intro e s r hr
  obtain ⟨a, b, _, rfl, rfl, _, _, _⟩ := atB_some hr
  rw [hv] at hr
  obtain ⟨h1, h2 | ⟨p, h2, h3, h4⟩⟩ := h _ _ _ hr
  · exact ⟨h1, .inl h2⟩
  · obtain ⟨x, y, _, e1, e2, _, _, _⟩ := atB_some h2
    refine ⟨h1, .inr ⟨p, ?_, h3, h4⟩⟩
    rw [e1, e2] at h2 ⊢
    rw [hv]; exact h2
theorem shut_view {bk bk' : List (Option Lst)} {i : Nat} {l : Lst} (hl : bk[i]? = some (some l)) (hd : Drops (plc i (prs l 0)) bk bk') (a b : Nat) : atB (bk'.set i none) (a : Int) (b : Int) = atB bk' (a : Int) (b : Int) := by
  obtain ⟨l', hl'⟩ := shape_open hd.here.1 hl
  have hi : i < bk'.length := (List.getElem?_eq_some_iff.1 hl').1
  by_cases e : a = i
  · subst e
    have h0 : atB bk' (a : Int) (b : Int) = none := by
      cases hb : atB bk' (a : Int) (b : Int) with
      | none => rfl
      | some r =>
        have h1 := hd.here.2 a b
        rw [hb, atN_eq hl] at h1
        cases hx : l[b]? with
        | none => rw [hx] at h1; simp at h1
        | some o => cases o with
          | none => rw [hx] at h1; simp at h1
          | some q =>
            have h2 : (a, b) ∈ plc a (prs l 0) := List.mem_map.2 ⟨(b, q), prs_mem.2 hx, rfl⟩
            simp [h2] at h1
    rw [h0]
    unfold atB
    rw [look_nat, List.getElem?_set_self hi]; rfl
  · unfold atB
    rw [look_nat, look_nat, List.getElem?_set_ne (fun h => e h.symm)]
/-- a step keeps a book sound -/
theorem Step.snd {o : Opr} {bk bk' : List (Option Lst)} {f : Int → Int → Nat} (h : Snd bk f) (h48 : ∀ (i : Nat) (l : Lst), bk[i]? = some (some l) → l.length = 48) (hs : Step o bk bk') : ∃ f', Snd bk' f' := by
  cases hs using Step.ind with
  | none => exact ⟨f, h⟩
  | opn _ ho =>
    have ho' := ho
    rcases ho with ⟨k, hk, h1, rfl, rfl⟩ | ⟨_, rfl, _⟩
    · rw [hk] at ho'
      exact ⟨f, h.congr (open_view (List.getElem?_eq_some_iff.1 h1).1 (by rw [look_nat, h1]; rfl) ho').2.1⟩
    · exact ⟨f, h⟩
  | shut0 => exact ⟨f, h⟩
  | shut _ _ hl hd => exact ⟨f, (h.drops hd).congr (shut_view hl hd)⟩
  | mint _ hm =>
    rcases hm with ⟨_, _, _, rfl⟩ | ⟨_, _, _, _, rfl⟩ | ⟨i, l, l', _, hl, _, hb, hy, rfl⟩
    · exact ⟨f, h⟩
    · exact ⟨f, h⟩
    · rcases lay_view hl (h48 i l hl) hy with ⟨k, _, _, _, hf, _, _, _, hv⟩ | ⟨_, _, e, _⟩
      · exact h.lay hf hv ⟨hb.2.2.2.2.2.2.1, hb.2.2.2.2.2.2.2⟩ (.inl ⟨rfl, rfl⟩)
      · rw [e]; exact ⟨f, h⟩
  | derive _ hm =>
    rcases hm with ⟨_, _, _, rfl⟩ | ⟨_, _, _, _, rfl⟩ | ⟨_, _, _, _, _, rfl⟩ | ⟨_, _, _, _, _, _, rfl⟩ | ⟨i, l, l', r, _, hl, hr, hok, _, hrt, hy, rfl⟩
    · exact ⟨f, h⟩
    · exact ⟨f, h⟩
    · exact ⟨f, h⟩
    · exact ⟨f, h⟩
    · rcases lay_view hl (h48 i l hl) hy with ⟨k, _, _, _, hf, _, _, _, hv⟩ | ⟨_, _, e, _⟩
      · exact h.lay hf hv hrt (.inr ⟨r, hr, rfl, rfl, rfl, hok⟩)
      · rw [e]; exact ⟨f, h⟩
  | drop0 => exact ⟨f, h⟩
  | drop _ _ _ hr hd => exact ⟨f, h.drop hr hd⟩
  | revoke0 => exact ⟨f, h⟩
  | revoke _ _ _ _ hd _ hp => exact ⟨f, h.revoke hd hp⟩
  | purge => exact ⟨f, h.purge _ _⟩
end Go.Proofs.Ytjpnjgbcmodnoaa

namespace Go.Proofs.Ytjpnjgbcmodnoaa
open Go.RowKit Go.Shelf

/-- what the lists below k hold -/
def hl (bk : List (Option Lst)) (k : Nat) : List (Int × (Nat × Rc)) := (List.range k).flatMap (fun i => (prs (lf bk i) 0).map (fun x => ((i : Int), x)))
def encA (l : List (Int × (Nat × Rc))) : List Value := l.flatMap (fun y => encH y.1 y.2)
theorem hl_succ (bk : List (Option Lst)) (k : Nat) : hl bk (k + 1) = hl bk k ++ (prs (lf bk k) 0).map (fun x => ((k : Int), x)) := by simp [hl, List.range_succ]
theorem encA_add (l : List (Int × (Nat × Rc))) (i : Int) (m : List (Nat × Rc)) : encA (l ++ m.map (fun x => (i, x))) = encA l ++ encHs i m := by
  simp [encA, encHs, List.flatMap_map]
theorem lf_len {w : World} {F : Nat → Prop} {B : Nat} {bk : List (Option Lst)} (h : Book w F B bk) (i : Nat) : (prs (lf bk i) 0).length ≤ 48 := by
  rw [prs_len]
  refine Nat.le_trans count_le ?_
  unfold lf
  cases hl : look bk (i : Int) with
  | none => simp
  | some l =>
    obtain ⟨j, e, hj⟩ := look_open hl
    obtain rfl : i = j := by omega
    exact Nat.le_of_eq (h.l48 hj)
theorem hl_len {w : World} {F : Nat → Prop} {B : Nat} {bk : List (Option Lst)} (h : Book w F B bk) (k : Nat) : (hl bk k).length ≤ k * 48 := by
  induction k with
  | zero => simp [hl]
  | succ k ih => rw [hl_succ, List.length_append, List.length_map]; have := lf_len h k; omega
theorem list_all (w : World) (F : Nat → Prop) (B : Nat) (bk : List (Option Lst)) (h : Book w F B bk) (i : Nat) :
    Calls Try.prog 7 #[.pointer (some ⟨B, 0, none⟩), .int .i64 (i : Int)] w fun e W' => ∃ v c, e = .returned (.tuple #[v, .int .i64 c]) ∧ W'.ownsRow w.heap.size 38 6 v (prs (lf bk i) 0).length (encHs (i : Int) (prs (lf bk i) 0)) ∧ Below w.heap.size w W' := by
  cases hl : look bk (i : Int) with
  | none =>
    refine (list_none w F B bk h i hl).mono ?_
    rintro e w' ⟨rfl, hb⟩
    have e0 : lf bk i = [] := by unfold lf; rw [hl]; rfl
    exact ⟨_, _, rfl, by rw [e0]; exact ⟨rfl, .inl ⟨rfl, rfl⟩⟩, hb⟩
  | some l =>
    obtain ⟨j, e, hj⟩ := look_open hl
    obtain rfl : i = j := by omega
    have e0 : lf bk i = l := by unfold lf; rw [hl]; rfl
    rw [e0]
    obtain ⟨T, G, m, fs, h⟩ := h
    refine ((callsIn_wide (n := 3)).1 (list_in 3 (Nat.le_refl _) F B T G m fs bk w h i l hj)).mono ?_
    rintro e w' ⟨v, rfl, h1, h2⟩
    exact ⟨v, 0, rfl, h1, h2⟩
end Go.Proofs.Ytjpnjgbcmodnoaa

namespace Go.Proofs.Ytjpnjgbcmodnoaa
open Go.RowKit Go.Shelf

set_option maxRecDepth 8000 in
set_option maxHeartbeats 3200000 in
theorem all_any (w : World) (F : Nat → Prop) (B : Nat) (bk : List (Option Lst)) (h : Book w F B bk) :
    Calls Try.prog 6 #[.pointer (some ⟨B, 0, none⟩)] w fun e w' => ∃ v, e = .returned v ∧ w'.ownsRow w.heap.size 38 6 v (hl bk 16).length (encA (hl bk 16)) ∧ Below w.heap.size w w' := by
  obtain ⟨i54, hi, hz, hs, hb⟩ := info54'
  have HBk := hide h
  clear h
  go_enter Try.func6, Try.ntmps6
  go_wp2_with fail
  go_loopw [3, 4] (fun u x wr => ∃ (k : Nat), k ≤ 16 ∧ x = .int .i64 (k : Int) ∧ Hid (wr.ownsRow w.heap.size 38 6 u (hl bk k).length (encA (hl bk k))) ∧ Hid (Below w.heap.size w wr)) (fun _ x _ => 16 - (intOf x).toNat)
  case atStart => exact ⟨0, by omega, rfl, ⟨rfl, .inl ⟨rfl, rfl⟩⟩, Below.refl _ _⟩
  case round =>
  obtain ⟨k, hk, rfl, K1, K2⟩ := hrel
  have hlen := hl_len HBk.out k
  have hpl := lf_len HBk.out k
  by_cases hlt : k < 16
  · have hd : decide ((k : Int) < 16) = true := by simp; omega
    have HBr := hide (HBk.out.below K2.out)
    have HL := hide (list_all wr F B bk HBr.out k)
    have HN : Hid ((hl bk (k + 1)).length = (hl bk k).length + (prs (lf bk k) 0).length ∧ encA (hl bk (k + 1)) = encA (hl bk k) ++ encHs (k : Int) (prs (lf bk k) 0)) := hide ⟨by rw [hl_succ]; simp, by rw [hl_succ, encA_add]⟩
    generalize hLn : (hl bk k).length = L at *
    clear hLn
    generalize hl bk k = A at *
    generalize hms : prs (lf bk k) 0 = ms at *
    clear hms
    obtain ⟨au, cu, rfl⟩ := own_shape K1.out
    go_wp2_with fail
    refine HL.out.mono ?_
    rintro e1 w1 ⟨v, c, rfl, hrow, hb1⟩
    have hkz := K2.out.size
    have HO := hide (own_below K1.out hb1)
    have HB1 := hide (K2.out.trans (hb1.mono hkz))
    rcases hrow.2 with ⟨hnil, h0⟩ | ⟨g, cap, cur, rfl, hbase, hbk, h1, h2, h3, h4⟩
    · obtain rfl : ms = [] := List.length_eq_zero_iff.1 h0
      subst hnil
      have HF : Hid (w1.ownsRow w.heap.size 38 6 (.slice au L cu) (hl bk (k + 1)).length (encA (hl bk (k + 1)))) := by
        refine hide ?_
        rw [HN.out.1, HN.out.2]
        have h9 := HO.out
        simpa [encHs] using h9
      go_wp2_with (at_builtin; refine wpList_append_own_none rfl _ _ 31 rfl w.heap.size 38 i54 6 Try.underlying31 hi (.slice au L cu) L (encA A) rfl HO.out rfl ?_)
      go_roundw
      case rel =>
        first
          | exact ⟨k + 1, by omega, by go_num, HF, HB1⟩
          | ((repeat apply Exists.intro); refine ⟨?_, rfl⟩; exact ⟨k + 1, by omega, by go_num, HF, HB1⟩)
      case measure => simp [intOf]; omega
    · have hcells : ∀ (j : Nat) (y : Value), (encHs (k : Int) ms)[j]? = some y → w1.cell? ((⟨g, 0, none⟩ : Addr).add j) = some y := by
        intro j y hy
        have hj : j < ms.length * 6 := by have := (List.getElem?_eq_some_iff.1 hy).1; rw [encHs_len] at this; exact this
        rw [add0, hrow.cellAt j hj]; exact hy
      have HC := hide hcells
      have hone : ∀ y ∈ encHs (k : Int) ms, y.oneCell' = true := by
        intro y hy
        obtain ⟨x, _, hx⟩ := List.mem_flatMap.1 hy
        simp [encH] at hx
        rcases hx with rfl | rfl | rfl | rfl | rfl | rfl <;> rfl
      have HOne := hide hone
      clear hcells hone hrow hb1 HL
      go_wp2_with (at_builtin; refine wpList_append_own_at _ rfl _ _ 31 rfl w.heap.size 38 i54 (.agg #[.int .i64 0, .int .i64 0, .int .i64 0, .int .i64 0, .int .i64 0, .int .i64 0]) 6 48 Try.underlying31 hi hz hs hb rfl (by decide) (.slice au L cu) L (encA A) rfl HO.out ⟨g, 0, none⟩ ms.length cap (encHs (k : Int) ms) rfl (encHs_len _ _) HC.out HOne.out (by unfold maxLen; omega) (by omega) (by have := HB1.out.size; omega) ?_; intro v2 w2 ho2 hg2 _ _)
      have HF : Hid (w2.ownsRow w.heap.size 38 6 v2 (hl bk (k + 1)).length (encA (hl bk (k + 1)))) := by
        refine hide ?_
        rw [HN.out.1, HN.out.2]
        exact ho2
      have HB2 : Hid (Below w.heap.size w w2) := hide (HB1.out.grown hg2 HB1.out.size (fun j hj => (HO.out.lt j hj).1))
      clear ho2 hg2
      go_wp2
      go_roundw
      case rel =>
        first
          | exact ⟨k + 1, by omega, by go_num, HF, HB2⟩
          | ((repeat apply Exists.intro); refine ⟨?_, rfl⟩; exact ⟨k + 1, by omega, by go_num, HF, HB2⟩)
      case measure => simp [intOf]; omega
  · have hd : decide ((k : Int) < 16) = false := by simp; omega
    obtain rfl : k = 16 := by omega
    go_wp2
    go_ret
    exact ⟨_, rfl, K1.out, K2.out⟩
end Go.Proofs.Ytjpnjgbcmodnoaa

namespace Go.Proofs.Ytjpnjgbcmodnoaa
open Go.RowKit

/-- behind i of the four openings -/
structure Opn (i : Nat) (bk : List (Option Lst)) : Prop where
  op : ∀ x : Nat, (look bk (x : Int)).isSome = decide (x < i)
  no : ∀ a b : Nat, atB bk (a : Int) (b : Int) = none
theorem opn_zero : Opn 0 (List.replicate 16 none) := by
  have hl : ∀ x : Nat, look (List.replicate 16 (none : Option Lst)) (x : Int) = none := by
    intro x; rw [look_nat, List.getElem?_replicate]; split <;> rfl
  exact ⟨fun x => by rw [hl]; simp, fun a b => by unfold atB; rw [hl]; rfl⟩
theorem opn_next {i : Nat} {bk bk' : List (Option Lst)} {c : Int} (h : Opn i bk) (hb : bk.length = 16) (hi : i < 4) (ho : OpenR bk i c bk') : c = 0 ∧ Opn (i + 1) bk' := by
  obtain ⟨h1, h2, h3⟩ := open_view (i := i) (by omega) (by rw [h.op]; simp) ho
  refine ⟨h1, fun x => ?_, fun a b => (h2 a b).trans (h.no a b)⟩
  rw [h3, h.op]
  rcases Nat.lt_trichotomy x i with h4 | h4 | h4
  · simp [h4]; omega
  · simp [h4]
  · have e1 : ¬ x < i := by omega
    have e2 : ¬ x = i := by omega
    have e3 : ¬ x < i + 1 := by omega
    simp [e1, e2, e3]
theorem mint_begun {bk bk' : List (Option Lst)} {k o s r v c : Int} (h : Opn 4 bk) (h48 : ∀ (i : Nat) (l : Lst), bk[i]? = some (some l) → l.length = 48) (hm : mb k o s r) (hM : MintR bk 0 (-1) k o s r v c bk') : v = 0 ∧ c = 0 ∧ Begun bk' k o s r := by
  have h0 := h.op 0
  obtain ⟨l0, hl0, hlk⟩ := look_len (i := 0) (by rw [h0]; rfl)
  rcases hM with ⟨h1, _⟩ | ⟨_, h3, _⟩ | ⟨i, l, l', hi, h3, h4, _, h6, rfl⟩
  · rw [show ((0 : Nat) : Int) = 0 from rfl] at hlk
    rw [hlk] at h1; cases h1
  · rcases h3 with h3 | h3
    · omega
    · exact (h3 hm).elim
  · obtain rfl : i = 0 := by omega
    rcases lay_view h3 (h48 0 l h3) h6 with ⟨q, hq, rfl, rfl, _, hlow, _, hsh, hat⟩ | ⟨_, _, _, h7⟩
    · have hq0 : q = 0 := by
        rcases Nat.eq_zero_or_pos q with e | e
        · exact e
        · exact (hlow (by omega) 0 e (h.no 0 0)).elim
      subst hq0
      refine ⟨rfl, rfl, fun x => (hsh x).trans (h.op x), fun a b => ?_⟩
      rw [hat, h.no]
    · rcases h7 with ⟨_, h8⟩ | h8 | ⟨h8, _⟩
      · exact (h8 0 (by omega) (h.no 0 0)).elim
      · omega
      · omega
theorem derive_begun {bk bk' : List (Option Lst)} {k o s r v c : Int} (h : Begun bk k o s r) (h48 : ∀ (i : Nat) (l : Lst), bk[i]? = some (some l) → l.length = 48) (hr : 0 ≤ r ∧ r ≤ 15) (hok : okR r ⟨k, o, s, r, -1, -1⟩ = true) (hD : DeriveR bk 0 0 3 47 r v c bk') :
    v = 47 ∧ c = 0 ∧ Shape bk bk' ∧ ∀ x y : Nat, atB bk' (x : Int) (y : Int) = if x = 3 ∧ y = 47 then some ⟨k, o, s, r, 0, 0⟩ else atB bk (x : Int) (y : Int) := by
  have h0 : atB bk 0 0 = some ⟨k, o, s, r, -1, -1⟩ := by have := h.at0 0 0; simpa using this
  obtain ⟨l0, hl0, hlk⟩ := look_len (i := 3) (by rw [h.four]; rfl)
  rcases hD with ⟨h1, _⟩ | ⟨_, h1, _⟩ | ⟨_, _, h1, _⟩ | ⟨_, ⟨q, h1, h2⟩, _⟩ | ⟨i, l, l', q, hi, h3, h4, _, _, _, h6, rfl⟩
  · rw [show ((3 : Nat) : Int) = 3 from rfl] at hlk
    rw [hlk] at h1; cases h1
  · rw [h0] at h1; cases h1
  · omega
  · rw [h0] at h1; cases h1; rw [hok] at h2; cases h2
  · obtain rfl : i = 3 := by omega
    rw [h0] at h4; cases h4
    rcases lay_view h3 (h48 3 l h3) h6 with ⟨p, hp, rfl, rfl, _, _, hpos, hsh, hat⟩ | ⟨_, _, _, h7⟩
    · have := hpos (by omega)
      obtain rfl : p = 47 := by omega
      exact ⟨rfl, rfl, hsh, hat⟩
    · rcases h7 with ⟨h8, _⟩ | ⟨_, h8⟩ | ⟨_, x, h8⟩
      · omega
      · omega
      · have := h.at0 3 47
        rw [show ((3 : Nat) : Int) = 3 from rfl, show ((47 : Nat) : Int) = 47 from rfl] at this
        rw [show ((3 : Nat) : Int) = 3 from rfl] at h8
        rw [h8] at this; simp at this
theorem drop_begun {bk bk1 bk' : List (Option Lst)} {k o s r : Int} (h : Begun bk k o s r) (hs : Shape bk bk1) (hat : ∀ x y : Nat, atB bk1 (x : Int) (y : Int) = if x = 3 ∧ y = 47 then some ⟨k, o, s, r, 0, 0⟩ else atB bk (x : Int) (y : Int)) (hD : DropR bk1 3 47 ⟨k, o, s, r, 0, 0⟩ bk') : Begun bk' k o s r := by
  refine ⟨(h.four.shape hs).shape hD.1, fun a b => ?_⟩
  rw [hD.2 a b, hat, h.at0]
  by_cases e : a = 3 ∧ b = 47
  · obtain ⟨rfl, rfl⟩ := e; simp
  · simp only [if_neg e]
    by_cases e2 : a = 0 ∧ b = 0
    · simp [e2, rp]
    · simp [e2]
set_option maxRecDepth 8000 in
set_option maxHeartbeats 4000000 in
theorem begun_any (w : World) (k o s r : Int) (hm : mb k o s r) :
    Calls Try.prog 4 #[.agg #[.int .i64 k, .int .i64 o, .int .i64 s, .int .i64 r]] w fun x w' => ∃ B F bk, x = .returned (.pointer (some ⟨B, 0, none⟩)) ∧ Book w' F B bk ∧ (∀ b, F b → w.heap.size ≤ b) ∧ Below w.heap.size w w' ∧ Begun bk k o s r := by
  have hb0 := (Below.refl w.heap.size w).alloc (Nat.le_refl _) (.cells #[.int .i64 k, .int .i64 o, .int .i64 s, .int .i64 r] 26)
  have hR0 := heap_alloc_new w (.cells #[.int .i64 k, .int .i64 o, .int .i64 s, .int .i64 r] 26)
  have HB0 := hide hb0
  have HMb := hide hm
  clear hb0 hm
  go_enter Try.func4, Try.ntmps4
  go_wp2_with fail
  generalize hgw : w.alloc (.cells #[.int .i64 k, .int .i64 o, .int .i64 s, .int .i64 r] 26) = w0 at *
  clear hgw
  have hlt0 := (Array.getElem?_eq_some_iff.1 hR0).1
  generalize hn0 : w.heap.size = n0 at *
  refine (new_any w0).mono ?_
  rintro e w1 ⟨B, F, rfl, hB, hF, hb1⟩
  have HR1 := hide ((hb1.block n0 hlt0).trans hR0)
  have HS : Hid (∃ F bk, Book w1 F B bk ∧ Opn 0 bk ∧ (∀ b, F b → n0 < b) ∧ Below n0 w w1 ∧ w1.heap[n0]? = some (.cells #[.int .i64 k, .int .i64 o, .int .i64 s, .int .i64 r] 26 (0, 0))) :=
    ⟨F, _, hB, opn_zero, fun b hb => by have := hF b hb; omega, HB0.out.trans (hb1.mono (by omega)), HR1.out⟩
  clear hB hF hb1 HR1 hR0
  go_wp2_with fail
  go_loopw [4] (fun x wr => ∃ i : Nat, i ≤ 4 ∧ x = .int .i64 (i : Int) ∧ Hid (∃ F bk, Book wr F B bk ∧ Opn i bk ∧ (∀ b, F b → n0 < b) ∧ Below n0 w wr ∧ wr.heap[n0]? = some (.cells #[.int .i64 k, .int .i64 o, .int .i64 s, .int .i64 r] 26 (0, 0)))) (fun x _ => 4 - (intOf x).toNat)
  case atStart => exact ⟨0, by omega, rfl, HS⟩
  case round =>
  clear HS
  obtain ⟨i, hi, rfl, K1⟩ := hrel
  by_cases hlt : i < 4
  · obtain ⟨F1, bk1, h1, h2, h3, h4, h5⟩ := K1.out
    have HO := hide (open_any wr F1 B bk1 h1 (i : Int))
    have H2 := hide (And.intro h1 (And.intro h2 (And.intro h3 (And.intro h4 h5))))
    have hi4 : (i : Int) < 4 := by omega
    clear h1 h2 h3 h4 h5 K1
    go_wp2_with fail
    refine HO.out.mono ?_
    rintro e w2 ⟨c, bk', F', rfl, hB2, hE2, hO2⟩
    obtain ⟨h1, h2, h3, h4, h5⟩ := H2.out
    obtain ⟨rfl, hO3⟩ := opn_next h2 h1.blen hlt hO2
    have K2 : Hid (∃ F bk, Book w2 F B bk ∧ Opn (i + 1) bk ∧ (∀ b, F b → n0 < b) ∧ Below n0 w w2 ∧ w2.heap[n0]? = some (.cells #[.int .i64 k, .int .i64 o, .int .i64 s, .int .i64 r] 26 (0, 0))) :=
      ⟨F', bk', hB2, hO3, fun b hb => by rcases hE2.new b hb with h | h; exact h3 b h; have := (Array.getElem?_eq_some_iff.1 h5).1; omega, h4.trans (hE2.mod.below (fun b hb => Nat.le_of_lt (h3 b hb)) (by have := h4.size; omega)), (hE2.mod.block n0 (Array.getElem?_eq_some_iff.1 h5).1 (fun hf => by have := h3 n0 hf; omega)).trans h5⟩
    clear hB2 hE2 hO2 h1 h2 h3 h4 h5 HO H2 hO3
    go_wp2
    go_roundw
    case rel =>
      first
        | exact ⟨i + 1, by omega, by go_num, K2⟩
        | ((repeat apply Exists.intro); refine ⟨?_, rfl⟩; exact ⟨i + 1, by omega, by go_num, K2⟩)
    case measure => simp [intOf]; omega
  · obtain rfl : i = 4 := by omega
    obtain ⟨F1, bk1, h1, h2, h3, h4, h5⟩ := K1.out
    have HM := hide (mint_any wr F1 B bk1 h1 0 (-1) k o s r)
    obtain ⟨d0, d1, d2, d3⟩ := blk4 h5
    have H2 := hide (And.intro h1 (And.intro h2 (And.intro h3 (And.intro h4 h5))))
    clear h1 h2 h3 h4 h5 K1
    go_wp2_with fail
    refine HM.out.mono ?_
    rintro e w2 ⟨v, c, bk2, F2, rfl, hB2, hE2, hM2⟩
    obtain ⟨h1, h2, h3, h4, h5⟩ := H2.out
    obtain ⟨rfl, rfl, hBeg⟩ := mint_begun h2 (fun i l hl => h1.l48 hl) HMb.out hM2
    have hn2 : ∀ b, F2 b → n0 < b := fun b hb => by
      rcases hE2.new b hb with h | h
      · exact h3 b h
      · have := (Array.getElem?_eq_some_iff.1 h5).1; omega
    have hbl2 := h4.trans (hE2.mod.below (fun b hb => Nat.le_of_lt (h3 b hb)) (by have := h4.size; omega))
    have hR2 := (hE2.mod.block n0 (Array.getElem?_eq_some_iff.1 h5).1 (fun hf => by have := h3 n0 hf; omega)).trans h5
    have HN2 := hide hn2
    have HB2 := hide hB2
    have HBe := hide hBeg
    have HBl2 := hide hbl2
    have HR2 := hide hR2
    clear h1 h2 h3 h4 h5 hB2 hE2 hM2 hBeg hn2 hbl2 H2 HM d0 d1 d2 d3
    obtain ⟨d0, d1, d2, d3⟩ := blk4 hR2
    clear hR2
    obtain ⟨gb, hgb⟩ : ∃ gb, (bits .and .i64 r 4 == 0) = gb := ⟨_, rfl⟩
    cases gb
    · have HG := hide hgb
      have HDv := hide (derive_any w2 F2 B bk2 HB2.out 0 0 3 47 r)
      go_wp2_with fail
      refine HDv.out.mono ?_
      rintro e w3 ⟨v, c, bk3, F3, rfl, hB3, hE3, hD3⟩
      obtain ⟨rfl, rfl, hsh3, hat3⟩ := derive_begun HBe.out (fun i l hl => HB2.out.l48 hl) ⟨HMb.out.2.2.2.2.2.2.1, HMb.out.2.2.2.2.2.2.2⟩ (okR_self r HMb.out.2.2.2.2.2.2.1 HMb.out.2.2.2.2.2.2.2 HG.out _ rfl) hD3
      have hat : atB bk3 3 47 = some ⟨k, o, s, r, 0, 0⟩ := by have := hat3 3 47; simpa using this
      have hn3 : ∀ b, F3 b → n0 < b := fun b hb => by
        rcases hE3.new b hb with h | h
        · exact HN2.out b h
        · have := (Array.getElem?_eq_some_iff.1 HR2.out).1; omega
      have hbl3 := HBl2.out.trans (hE3.mod.below (fun b hb => Nat.le_of_lt (HN2.out b hb)) (by have := HBl2.out.size; omega))
      have hR3 := (hE3.mod.block n0 (Array.getElem?_eq_some_iff.1 HR2.out).1 (fun hf => by have := HN2.out n0 hf; omega)).trans HR2.out
      have HB3 := hide hB3
      have HN3 := hide hn3
      have HBl3 := hide hbl3
      have HR3 := hide hR3
      have HSA := hide (And.intro hsh3 hat3)
      have HAt := hide hat
      have HFm := hide (from_any w3 F3 B bk3 hB3 3 47)
      rw [lcode_some hat, show fromB bk3 3 47 = (0, 0) by unfold fromB; rw [hat]] at HFm
      clear hB3 hE3 hD3 hsh3 hat3 hat hn3 hbl3 hR3 HDv HB2 HN2 HBl2 HR2 d0 d1 d2 d3
      go_wp2_with fail
      refine HFm.out.mono ?_
      rintro e w4 ⟨rfl, hb4⟩
      have hb5 := hb4.alloc hb4.size (.cells #[.int .i64 0, .int .i64 0] 45)
      have HB5 := hide (HB3.out.below hb5)
      have hR5 := (hb5.block n0 (Array.getElem?_eq_some_iff.1 HR3.out).1).trans HR3.out
      have HBl5 := hide (HBl3.out.trans (hb5.mono (by have := HBl3.out.size; omega)))
      have HDr := hide (dropSome_any _ F3 B bk3 HB5.out 3 47 _ HAt.out)
      clear hb4 HFm HB3 HBl3 HR3
      go_wp2_with fail
      refine HDr.out.mono ?_
      rintro e w6 ⟨rfl, bk6, hB6, hE6, hD6⟩
      have HBe6 := hide (drop_begun HBe.out HSA.out.1 HSA.out.2 hD6)
      have hR6 := (hE6.mod.block n0 (Array.getElem?_eq_some_iff.1 hR5).1 (fun hf => by have := HN3.out n0 hf; omega)).trans hR5
      have hb7 := (Below.refl w6.heap.size w6).alloc (Nat.le_refl _) (.cells #[.int .i64 k, .int .i64 o, .int .i64 s, .int .i64 r] 26)
      have hR7 := (hb7.block n0 (Array.getElem?_eq_some_iff.1 hR6).1).trans hR6
      have hX7 := heap_alloc_new w6 (.cells #[.int .i64 k, .int .i64 o, .int .i64 s, .int .i64 r] 26)
      have HB7 := hide (hB6.below hb7)
      have HBl7 := hide ((HBl5.out.trans (hE6.mod.below (fun b hb => Nat.le_of_lt (HN3.out b hb)) (by have := HBl5.out.size; omega))).trans (hb7.mono (by have := HBl5.out.size; have := hE6.mod.size; omega)))
      clear hb5 hB6 hE6 hD6 hR5 hR6 hb7 HDr HBe HB5 HBl5 HSA HAt
      simp only [Rc.cap]
      go_upto_region 19 with fail
      generalize hgw : w6.alloc (.cells #[.int .i64 k, .int .i64 o, .int .i64 s, .int .i64 r] 26) = w7 at *
      clear hgw
      obtain ⟨d0, d1, d2, d3⟩ := blk4 hR7
      obtain ⟨x0, x1, x2, x3⟩ := blk4 hX7
      clear hR7 hX7
      go_wp2
      go_ret
      exact ⟨B, F3, bk6, rfl, HB7.out, by rw [hn0]; exact fun b hb => Nat.le_of_lt (HN3.out b hb), by rw [hn0]; exact HBl7.out, HBe6.out⟩
    · have H9 := hide (show ∃ B' F bk, B' = B ∧ Book w2 F B bk ∧ (∀ b, F b → n0 ≤ b) ∧ Below n0 w w2 ∧ Begun bk k o s r from ⟨B, F2, bk2, rfl, HB2.out, fun b hb => Nat.le_of_lt (HN2.out b hb), HBl2.out, HBe.out⟩)
      clear HB2 HN2 HBl2 HBe HR2
      go_wp2
      go_ret
      obtain ⟨B', F, bk, rfl, h1, h2, h3, h4⟩ := H9.out
      exact ⟨B', F, bk, rfl, h1, by rw [hn0]; exact h2, by rw [hn0]; exact h3, h4⟩
end Go.Proofs.Ytjpnjgbcmodnoaa
