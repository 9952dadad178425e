import Derived.Test.YtimfgjndgfjjgaaXD
namespace Go.Proofs.Ytimfgjndgfjjgaa
open Go.RowKit Go.Shelf

/-- what a parent is to its child -/
def Par (p r : Rc) : Prop := p.k = r.k ∧ p.o = r.o ∧ p.s = r.s ∧ okR r.r p = true
def Rt (r : Rc) : Prop := 0 ≤ r.r ∧ r.r ≤ 15
theorem ok16 : ∀ a b c : Fin 16, (bits .andNot .i64 (bits .or .i64 (a.val : Int) 4) (b.val : Int) == 0) = true → (bits .andNot .i64 (bits .or .i64 (b.val : Int) 4) (c.val : Int) == 0) = true → (bits .andNot .i64 (bits .or .i64 (a.val : Int) 4) (c.val : Int) == 0) = true := by decide
theorem okR_trans {x : Int} {q p : Rc} (hx : 0 ≤ x ∧ x ≤ 15) (hq : Rt q) (hp : Rt p) (h1 : okR x q = true) (h2 : okR q.r p = true) : okR x p = true := by
  have h := ok16 ⟨x.toNat, by omega⟩ ⟨q.r.toNat, by have := hq.1; have := hq.2; omega⟩ ⟨p.r.toNat, by have := hp.1; have := hp.2; omega⟩
  have e1 : ((x.toNat : Nat) : Int) = x := by omega
  have e2 : ((q.r.toNat : Nat) : Int) = q.r := by have := hq.1; omega
  have e3 : ((p.r.toNat : Nat) : Int) = p.r := by have := hp.1; omega
  simp only [e1, e2, e3] at h
  exact h h1 h2
theorem Par.trans {p q r : Rc} (hr : Rt r) (hq : Rt q) (hp : Rt p) (h : Par p q) (k : Par q r) : Par p r :=
  ⟨h.1.trans k.1, h.2.1.trans k.2.1, h.2.2.1.trans k.2.2.1, okR_trans hr hq hp k.2.2.2 h.2.2.2⟩
/-- all that is asked of a book -/
def Snd (bk : List (Option Lst)) (f : Int → Int → Nat) : Prop :=
  ∀ e s r, atB bk e s = some r → Rt r ∧ ((r.e = -1 ∧ r.t = -1) ∨ ∃ p, atB bk r.e r.t = some p ∧ Par p r ∧ f r.e r.t < f e s)
theorem Snd.rk {bk : List (Option Lst)} {f : Int → Int → Nat} (h : Snd bk f) : Rk bk f := fun e s r hr => by
  rcases (h e s r hr).2 with h1 | ⟨p, h1, _, h2⟩
  · exact .inl h1
  · exact .inr ⟨⟨p, h1⟩, h2⟩
/-- where no child stays of one that goes -/
theorem Snd.rmv {bk : List (Option Lst)} {f : Int → Int → Nat} (h : Snd bk f) {ps : List (Nat × Nat)} (hn : ps.Nodup) (hex : ∀ p ∈ ps, ∃ r, atB bk (p.1 : Int) (p.2 : Int) = some r)
    (hcl : ∀ p ∈ ps, ∀ (a b : Nat) (r : Rc), atB bk (a : Int) (b : Int) = some r → r.e = (p.1 : Int) → r.t = (p.2 : Int) → (a, b) ∈ ps) : Snd (rmv bk ps) f := by
  intro e s r hr
  obtain ⟨_, hat⟩ := rmv_at ps bk hn hex
  obtain ⟨i, j, _, rfl, rfl, _, _, _⟩ := atB_some hr
  rw [hat] at hr
  split at hr
  · cases hr
  · rename_i hni
    obtain ⟨h1, h2 | ⟨p, h2, h3, h4⟩⟩ := h _ _ _ hr
    · exact ⟨h1, .inl h2⟩
    · obtain ⟨i', j', _, e1, e2, _, _, _⟩ := atB_some h2
      refine ⟨h1, .inr ⟨p, ?_, h3, h4⟩⟩
      rw [e1, e2] at h2 ⊢
      rw [hat, if_neg]
      · exact h2
      · intro hin
        exact hni (hcl _ hin i j r hr e1 e2)
theorem bel_child {bk : List (Option Lst)} : ∀ (n : Nat) {p x c : Nat × Nat}, Dep n bk p → x ∈ bel n bk p → c ∈ pls (chP x.1 x.2) bk → c ∈ bel n bk p
  | 0, _, _, _, hd, _, _ => hd.elim
  | n + 1, p, x, c, hd, hx, hc => by
    obtain ⟨d, h1, h2⟩ := List.mem_flatMap.1 hx
    refine List.mem_flatMap.2 ⟨d, h1, ?_⟩
    have hdd : Dep n bk d := hd d h1
    rcases List.mem_cons.1 h2 with rfl | h2
    · refine List.mem_cons_of_mem _ ?_
      cases n with
      | zero => exact hdd.elim
      | succ n => exact List.mem_flatMap.2 ⟨c, hc, List.mem_cons_self⟩
    · exact List.mem_cons_of_mem _ (bel_child n hdd h2 hc)
theorem Snd.purge {bk : List (Option Lst)} {f : Int → Int → Nat} (h : Snd bk f) (k o : Int) : Snd (Go.Proofs.Ytimfgjndgfjjgaa.rmv bk (pls (fun r => decide (r.k = k) && decide (r.o = o)) bk)) f := by
  refine h.rmv (pls_nodup _ _) (fun p hp => ?_) (fun p hp a b r hr e1 e2 => ?_)
  · obtain ⟨r, hr, _⟩ := mem_pls.1 (show (p.1, p.2) ∈ _ from hp)
    exact ⟨r, hr⟩
  · obtain ⟨q, hq, hq2⟩ := mem_pls.1 (show (p.1, p.2) ∈ _ from hp)
    obtain ⟨_, h2 | ⟨p', h2, h3, _⟩⟩ := h _ _ _ hr
    · omega
    · rw [e1, e2, hq] at h2
      cases h2
      refine mem_pls.2 ⟨r, hr, ?_⟩
      simp only [h3.1, h3.2.1] at hq2
      exact hq2
theorem Snd.revoke {bk : List (Option Lst)} {f : Int → Int → Nat} (h : Snd bk f) {i j n : Nat} {ps : List (Nat × Nat)} (hd : Dep n bk (i, j)) (hp : List.Perm ps (bel n bk (i, j))) : Snd (Go.Proofs.Ytimfgjndgfjjgaa.rmv bk ps) f := by
  refine h.rmv (hp.nodup_iff.2 (bel_nodup h.rk n (i, j))) (fun p hq => bel_mem n (hp.mem_iff.1 hq)) (fun p hq a b r hr e1 e2 => hp.mem_iff.2 (bel_child n hd (hp.mem_iff.1 hq) ?_))
  exact mem_pls.2 ⟨r, hr, by simp [chP, e1, e2]⟩
end Go.Proofs.Ytimfgjndgfjjgaa
