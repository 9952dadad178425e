import Derived.Test.YtimfgjndgfjjgaaYI
namespace Go.Proofs.Ytimfgjndgfjjgaa
open Go.RowKit Go.Shelf

theorem sorted_ext {α : Type} {R : α → α → Prop} (hir : ∀ a, ¬ R a a) (has : ∀ a b, R a b → ¬ R b a) : ∀ (l m : List α), l.Pairwise R → m.Pairwise R → (∀ x, x ∈ l ↔ x ∈ m) → l = m
  | [], [], _, _, _ => rfl
  | [], b :: m, _, _, h => by have := (h b).2 (by simp); cases this
  | a :: l, [], _, _, h => by have := (h a).1 (by simp); cases this
  | a :: l, b :: m, hl, hm, h => by
    obtain ⟨hl1, hl2⟩ := List.pairwise_cons.1 hl
    obtain ⟨hm1, hm2⟩ := List.pairwise_cons.1 hm
    have e : a = b := by
      rcases List.mem_cons.1 ((h a).1 (by simp)) with e | h1
      · exact e
      · rcases List.mem_cons.1 ((h b).2 (by simp)) with e | h2
        · exact e.symm
        · exact (has _ _ (hm1 a h1) (hl1 b h2)).elim
    subst e
    rw [sorted_ext hir has l m hl2 hm2 fun x => ⟨fun hx => ?_, fun hx => ?_⟩]
    · rcases List.mem_cons.1 ((h x).1 (List.mem_cons_of_mem _ hx)) with rfl | h1
      · exact (hir _ (hl1 _ hx)).elim
      · exact h1
    · rcases List.mem_cons.1 ((h x).2 (List.mem_cons_of_mem _ hx)) with rfl | h1
      · exact (hir _ (hm1 _ hx)).elim
      · exact h1
theorem plt_irr (a : Nat × Nat) : ¬ PLt a a := by unfold PLt; omega
theorem plt_asym (a b : Nat × Nat) (h : PLt a b) : ¬ PLt b a := by unfold PLt at *; omega
def rootC (s : Int) : Rc := ⟨1, 5, s, 15, -1, -1⟩
def childC (s : Int) : Rc := ⟨1, 5, s, 5, 0, 0⟩
/-- the root in list 0, and so many of its children in each other list -/
structure Kp (bk : List (Option Lst)) (s : Option Int) (c : Nat → Nat) (o : Nat → Bool) : Prop where
  op : ∀ x : Nat, (look bk (x : Int)).isSome = o x
  at_ : ∀ a b : Nat, atB bk (a : Int) (b : Int) = if a = 0 then (if b = 0 then s.map rootC else none) else if b < c a then s.map childC else none
theorem Begun.kp {bk : List (Option Lst)} (h : Begun bk 1 5 7 15) : Kp bk (some 7) (fun _ => 0) (fun x => decide (x < 4)) where
  op := h.four
  at_ := fun a b => by
    rw [h.at0]
    by_cases ha : a = 0 <;> by_cases hb : b = 0 <;> simp [ha, hb, rootC]
theorem Kp.rk {bk : List (Option Lst)} {s : Option Int} {c : Nat → Nat} {o : Nat → Bool} (h : Kp bk s c o) : Rk bk (fun a _ => if a = 0 then 0 else 1) := by
  intro e t r hr
  obtain ⟨a, b, _, rfl, rfl, _, _, _⟩ := atB_some hr
  rw [h.at_] at hr
  split at hr
  · split at hr
    · cases s with
      | none => cases hr
      | some s => simp at hr; subst hr; exact .inl ⟨rfl, rfl⟩
    · cases hr
  · rename_i ha
    split at hr
    · cases s with
      | none => cases hr
      | some s =>
        simp at hr; subst hr
        refine .inr ⟨⟨rootC s, ?_⟩, ?_⟩
        · have := h.at_ 0 0
          simpa [childC] using this
        · simp [childC, ha]
    · cases hr
/-- one more child -/
theorem Kp.derive {bk bk' : List (Option Lst)} {s : Int} {c : Nat → Nat} {o : Nat → Bool} (h : Kp bk (some s) c o) (h48 : ∀ (i : Nat) (l : Lst), bk[i]? = some (some l) → l.length = 48) {x : Nat} (hx : x ≠ 0) (ho : o x = true) (hc : c x < 48) {v k : Int} (hD : DeriveR bk 0 0 x (-1) 5 v k bk') :
    v = c x ∧ k = 0 ∧ Kp bk' (some s) (fun y => if y = x then c x + 1 else c y) o := by
  have h0 : atB bk 0 0 = some (rootC s) := by have := h.at_ 0 0; simpa using this
  obtain ⟨l0, hl0, hlk⟩ := look_len (i := x) (by rw [h.op]; exact ho)
  have hok : okR 5 (rootC s) = true := show (bits .andNot .i64 (bits .or .i64 5 4) 15 == 0) = true by decide
  rcases hD with ⟨h1, _⟩ | ⟨_, h1, _⟩ | ⟨_, _, h1, _⟩ | ⟨_, ⟨q, h1, h2⟩, _⟩ | ⟨i, l, l', q, hi, h3, h4, _, _, _, h6, rfl⟩
  · rw [hlk] at h1; cases h1
  · rw [h0] at h1; cases h1
  · omega
  · rw [h0] at h1; cases h1; rw [hok] at h2; cases h2
  · obtain rfl : x = i := by omega
    rw [h0] at h4; cases h4
    have hfree : ∀ j : Nat, atB bk (x : Int) (j : Int) = if j < c x then some (childC s) else none := fun j => by rw [h.at_, if_neg hx]; rfl
    rcases lay_view h3 (h48 x l h3) h6 with ⟨p, hp, rfl, rfl, hpf, hlow, _, hsh, hat⟩ | ⟨_, _, _, h7⟩
    · have hp1 : ¬ p < c x := fun e => by rw [hfree, if_pos e] at hpf; cases hpf
      have hp2 : ¬ c x < p := fun e => hlow (by omega) (c x) e (by rw [hfree, if_neg (by omega)])
      have hpe : p = c x := by omega
      subst hpe
      refine ⟨rfl, rfl, fun y => (hsh y).trans (h.op y), fun a b => ?_⟩
      rw [hat, h.at_]
      by_cases ha : a = x
      · subst ha
        by_cases hb : b = c a
        · subst hb; simp [hx, childC, rootC]
        · by_cases hb2 : b < c a
          · simp [hx, hb, hb2, show b < c a + 1 by omega]
          · simp [hx, hb, hb2, show ¬ b < c a + 1 by omega]
      · simp [ha]
    · rcases h7 with ⟨_, h8⟩ | h8 | ⟨h8, _⟩
      · exact (h8 (c x) hc (by rw [hfree, if_neg (by omega)])).elim
      · omega
      · omega
/-- what List tells -/
def kids (s : Int) (n : Nat) : List (Nat × Rc) := (List.range n).map (fun j => (j, childC s))
theorem kids_sorted (s : Int) (n : Nat) : (kids s n).Pairwise (fun a b => a.1 < b.1) := by
  unfold kids
  rw [List.pairwise_map]
  exact List.pairwise_lt_range
theorem Kp.prs {bk : List (Option Lst)} {s : Int} {c : Nat → Nat} {o : Nat → Bool} (h : Kp bk (some s) c o) {x : Nat} (hx : x ≠ 0) {l : Lst} (hl : bk[x]? = some (some l)) : Go.Proofs.Ytimfgjndgfjjgaa.prs l 0 = kids s (c x) := by
  refine sorted_ext (R := fun a b => a.1 < b.1) (fun a => by omega) (fun a b => by omega) _ _ (prsL_sorted _ _) (kids_sorted _ _) fun y => ?_
  obtain ⟨j, r⟩ := y
  rw [prs_mem]
  have h1 := h.at_ x j
  rw [atN_eq hl, if_neg hx] at h1
  unfold kids
  rw [List.mem_map]
  constructor
  · intro h2
    rw [h2] at h1
    by_cases e : j < c x
    · rw [if_pos e] at h1
      simp at h1
      exact ⟨j, List.mem_range.2 e, by rw [h1]⟩
    · rw [if_neg e] at h1; simp at h1
  · rintro ⟨i, hi, he⟩
    cases he
    rw [if_pos (List.mem_range.1 hi)] at h1
    cases hj : l[j]? with
    | none => rw [hj] at h1; simp at h1
    | some q => rw [hj] at h1; simp at h1; rw [h1]
/-- the places that all but the root are at, where one list alone has some -/
theorem Kp.bel {bk : List (Option Lst)} {s : Int} {c : Nat → Nat} {o : Nat → Bool} (h : Kp bk (some s) c o) {x : Nat} (hx : x ≠ 0) (hc : ∀ y, y ≠ x → c y = 0) {n : Nat} {ps : List (Nat × Nat)} (hd : Dep n bk (0, 0)) (hs : ps.Pairwise PLt) (hp : List.Perm ps (Go.Proofs.Ytimfgjndgfjjgaa.bel n bk (0, 0))) : ps = (List.range (c x)).map (fun j => (x, j)) := by
  have hch : ∀ d : Nat × Nat, d ∈ pls (chP 0 0) bk ↔ d.1 = x ∧ d.2 < c x := by
    intro d
    rw [show d = (d.1, d.2) from rfl, mem_pls]
    rw [h.at_]
    constructor
    · rintro ⟨r, hr, hr2⟩
      split at hr
      · split at hr
        · simp at hr; subst hr; simp [chP, rootC] at hr2
        · cases hr
      · split at hr
        · rename_i hlt
          by_cases e : d.1 = x
          · rw [e] at hlt; exact ⟨e, hlt⟩
          · rw [hc _ e] at hlt; omega
        · cases hr
    · rintro ⟨e, hlt⟩
      refine ⟨childC s, ?_, by simp [chP, childC]⟩
      rw [if_neg (by rw [e]; exact hx), if_pos (by rw [e]; exact hlt)]; rfl
  have hno : ∀ m (d : Nat × Nat), d.1 ≠ 0 → Go.Proofs.Ytimfgjndgfjjgaa.bel m bk d = [] := by
    intro m d hd
    cases m with
    | zero => rfl
    | succ m =>
      unfold Go.Proofs.Ytimfgjndgfjjgaa.bel
      have : pls (chP d.1 d.2) bk = [] := by
        refine List.eq_nil_iff_forall_not_mem.2 fun y hy => ?_
        rw [show y = (y.1, y.2) from rfl, mem_pls] at hy
        obtain ⟨r, hr, hr2⟩ := hy
        rw [h.at_] at hr
        simp only [chP, Bool.and_eq_true, decide_eq_true_eq] at hr2
        split at hr
        · split at hr
          · simp at hr; subst hr; simp [rootC] at hr2
          · cases hr
        · split at hr
          · simp at hr; subst hr; simp [childC] at hr2; omega
          · cases hr
      rw [this]; rfl
  refine sorted_ext plt_irr plt_asym _ _ hs ?_ fun d => ?_
  · rw [List.pairwise_map]
    exact List.pairwise_lt_range.imp (fun h => .inr ⟨rfl, h⟩)
  · rw [hp.mem_iff]
    cases n with
    | zero => exact hd.elim
    | succ n =>
      unfold Go.Proofs.Ytimfgjndgfjjgaa.bel
      rw [List.mem_flatMap, List.mem_map]
      constructor
      · rintro ⟨e, he, hde⟩
        obtain ⟨e1, e2⟩ := (hch e).1 he
        rw [hno n e (by rw [e1]; exact hx)] at hde
        simp at hde
        subst hde
        exact ⟨d.2, List.mem_range.2 e2, Prod.ext e1.symm rfl⟩
      · rintro ⟨j, hj, rfl⟩
        exact ⟨(x, j), (hch _).2 ⟨rfl, List.mem_range.1 hj⟩, by simp⟩
theorem Kp.revoked {bk : List (Option Lst)} {s : Int} {c : Nat → Nat} {o : Nat → Bool} (h : Kp bk (some s) c o) {x : Nat} (hx : x ≠ 0) (hc : ∀ y, y ≠ x → c y = 0) : Kp (rmv bk ((List.range (c x)).map (fun j => (x, j)))) (some s) (fun _ => 0) o := by
  obtain ⟨hsh, hat⟩ := rmv_at ((List.range (c x)).map (fun j => (x, j))) bk
    (List.pairwise_lt_range.map _ (fun a b hab => by intro e; simp at e; omega))
    (fun p hp => by
      obtain ⟨j, hj, rfl⟩ := List.mem_map.1 hp
      refine ⟨childC s, ?_⟩
      have h1 := h.at_ x j
      rw [if_neg hx, if_pos (List.mem_range.1 hj)] at h1
      exact h1)
  refine ⟨fun y => (hsh y).trans (h.op y), fun a b => ?_⟩
  rw [hat, h.at_]
  by_cases ha : a = 0
  · subst ha
    rw [if_neg]
    · simp
    · rw [List.mem_map]; rintro ⟨j, _, e⟩; simp at e; omega
  · simp only [ha, if_false]
    by_cases e : a = x
    · subst e
      by_cases hb : b < c a
      · rw [if_pos (List.mem_map.2 ⟨b, List.mem_range.2 hb, rfl⟩)]; simp
      · rw [if_neg hb]; simp
    · rw [hc a e]; simp
/-- what Shut leaves -/
theorem Kp.shut {bk bk' : List (Option Lst)} {s : Int} {c : Nat → Nat} {o : Nat → Bool} (h : Kp bk (some s) c o) {x : Nat} (hx : x ≠ 0) {l : Lst} (hl : bk[x]? = some (some l)) (hd : Drops (plc x (Go.Proofs.Ytimfgjndgfjjgaa.prs l 0)) bk bk') :
    Kp (bk'.set x none) (some s) (fun y => if y = x then 0 else c y) (fun y => if y = x then false else o y) := by
  have key : ∀ {ps : List (Nat × Nat)} {b1 b2 : List (Option Lst)}, Drops ps b1 b2 → (∀ p ∈ ps, p.1 ≠ 0) → (∀ (a b : Nat) (r : Rc), atB b1 (a : Int) (b : Int) = some r → r.e = 0 ∨ r.e = -1) → ∀ a b : Nat, atB b2 (a : Int) (b : Int) = if (a, b) ∈ ps then none else atB b1 (a : Int) (b : Int) := by
    intro ps b1 b2 hd
    induction hd with
    | nil bk => intro _ _ a b; simp
    | snoc h0 hr hd ih =>
      rename_i ps bk m bk' p r
      intro h1 h2 a b
      have ih' := ih (fun q hq => h1 q (by simp [hq])) h2
      rw [hd.2]
      by_cases e : a = p.1 ∧ b = p.2
      · rw [if_pos e, if_pos (by rw [show (a, b) = p from Prod.ext e.1 e.2]; simp)]
      · rw [if_neg e, ih']
        have hne : (a, b) ≠ p := fun h => e ⟨congrArg Prod.fst h, congrArg Prod.snd h⟩
        by_cases hin : (a, b) ∈ ps
        · simp [hin]
        · simp only [List.mem_append, List.mem_cons, List.not_mem_nil, or_false, hin, hne, if_false]
          cases hb : atB bk (a : Int) (b : Int) with
          | none => rfl
          | some q =>
            simp only [Option.map_some]
            congr 1
            unfold rp
            rw [if_neg]
            rintro ⟨e1, _⟩
            have := h2 a b q hb
            have := h1 p (by simp)
            omega
  have hpl := h.prs hx hl
  have hat := key hd (fun p hp => by obtain ⟨y, _, rfl⟩ := List.mem_map.1 hp; exact hx) (fun a b r hr => by
    rw [h.at_] at hr
    split at hr
    · split at hr
      · simp at hr; subst hr; exact .inr rfl
      · cases hr
    · split at hr
      · simp at hr; subst hr; exact .inl rfl
      · cases hr)
  obtain ⟨l', hl'⟩ := shape_open hd.here.1 hl
  refine ⟨fun y => ?_, fun a b => ?_⟩
  · rw [look_nat]
    by_cases e : y = x
    · subst e
      rw [List.getElem?_set_self (List.getElem?_eq_some_iff.1 hl').1]; simp
    · rw [List.getElem?_set_ne (fun e' => e e'.symm)]
      have := (hd.here.1 (y : Int)).trans (h.op y)
      rw [look_nat] at this
      simp only [e, if_false]
      exact this
  · rw [shut_view hl hd, hat, h.at_]
    by_cases e : a = x
    · subst e
      simp only [hx, if_false, if_true]
      by_cases hb : b < c a
      · rw [if_pos]
        · simp
        · rw [hpl]
          exact List.mem_map.2 ⟨(b, childC s), List.mem_map.2 ⟨b, List.mem_range.2 hb, rfl⟩, rfl⟩
      · simp [hb]
    · rw [if_neg]
      · simp [e]
      · intro hin
        obtain ⟨y, _, e2⟩ := List.mem_map.1 hin
        simp at e2
        exact e e2.1.symm
/-- what Purge tells: the root, and then what one list has -/
theorem Kp.pls {bk : List (Option Lst)} {s : Int} {c : Nat → Nat} {o : Nat → Bool} (h : Kp bk (some s) c o) {x : Nat} (hx : x ≠ 0) (hc : ∀ y, y ≠ x → c y = 0) : Go.Proofs.Ytimfgjndgfjjgaa.pls (fun r => decide (r.k = 1) && decide (r.o = 5)) bk = (0, 0) :: (List.range (c x)).map (fun j => (x, j)) := by
  refine sorted_ext plt_irr plt_asym _ _ (pls_sorted _ _) ?_ fun d => ?_
  · rw [List.pairwise_cons]
    refine ⟨fun d hd => ?_, ?_⟩
    · obtain ⟨j, _, rfl⟩ := List.mem_map.1 hd
      exact .inl (by show 0 < x; omega)
    · rw [List.pairwise_map]
      exact List.pairwise_lt_range.imp (fun h => .inr ⟨rfl, h⟩)
  · rw [show d = (d.1, d.2) from rfl, mem_pls, h.at_, List.mem_cons, List.mem_map]
    constructor
    · rintro ⟨r, hr, _⟩
      split at hr
      · split at hr
        · rename_i e1 e2
          exact .inl (Prod.ext e1 e2)
        · cases hr
      · split at hr
        · rename_i hlt
          by_cases e : d.1 = x
          · rw [e] at hlt; exact .inr ⟨d.2, List.mem_range.2 hlt, Prod.ext e.symm rfl⟩
          · rw [hc _ e] at hlt; omega
        · cases hr
    · rintro (e | ⟨j, hj, e⟩)
      · refine ⟨rootC s, ?_, by simp [rootC]⟩
        have e1 : d.1 = 0 := congrArg Prod.fst e
        have e2 : d.2 = 0 := congrArg Prod.snd e
        simp [e1, e2]
      · refine ⟨childC s, ?_, by simp [childC]⟩
        have e1 : d.1 = x := (congrArg Prod.fst e).symm
        have e2 : d.2 = j := (congrArg Prod.snd e).symm
        rw [e1, e2, if_neg hx, if_pos (List.mem_range.1 hj)]; rfl
theorem Kp.purged {bk : List (Option Lst)} {s : Int} {c : Nat → Nat} {o : Nat → Bool} (h : Kp bk (some s) c o) {x : Nat} (hx : x ≠ 0) (hc : ∀ y, y ≠ x → c y = 0) : Kp (rmv bk ((0, 0) :: (List.range (c x)).map (fun j => (x, j)))) none (fun _ => 0) o := by
  rw [← h.pls hx hc]
  obtain ⟨hsh, hat⟩ := rmv_at (Go.Proofs.Ytimfgjndgfjjgaa.pls (fun r => decide (r.k = 1) && decide (r.o = 5)) bk) bk (pls_nodup _ _) (fun p hp => by obtain ⟨r, hr, _⟩ := mem_pls.1 (show (p.1, p.2) ∈ _ from hp); exact ⟨r, hr⟩)
  refine ⟨fun y => (hsh y).trans (h.op y), fun a b => ?_⟩
  rw [hat]
  have : atB bk (a : Int) (b : Int) ≠ none → (a, b) ∈ Go.Proofs.Ytimfgjndgfjjgaa.pls (fun r => decide (r.k = 1) && decide (r.o = 5)) bk := by
    intro hn
    cases hb : atB bk (a : Int) (b : Int) with
    | none => exact (hn hb).elim
    | some r =>
      refine mem_pls.2 ⟨r, hb, ?_⟩
      rw [h.at_] at hb
      split at hb
      · split at hb
        · simp at hb; subst hb; simp [rootC]
        · cases hb
      · split at hb
        · simp at hb; subst hb; simp [childC]
        · cases hb
  by_cases e : atB bk (a : Int) (b : Int) = none
  · rw [e]; simp
  · rw [if_pos (this e)]; simp
theorem Kp.mint {bk bk' : List (Option Lst)} {o : Nat → Bool} (h : Kp bk none (fun _ => 0) o) (h48 : ∀ (i : Nat) (l : Lst), bk[i]? = some (some l) → l.length = 48) (ho : o 0 = true) {v c : Int} (hM : MintR bk 0 0 1 5 8 15 v c bk') : v = 0 ∧ c = 0 ∧ Kp bk' (some 8) (fun _ => 0) o := by
  obtain ⟨l0, hl0, hlk⟩ := look_len (i := 0) (by rw [h.op]; exact ho)
  rw [show ((0 : Nat) : Int) = 0 from rfl] at hlk
  have hno : ∀ a b : Nat, atB bk (a : Int) (b : Int) = none := fun a b => by rw [h.at_]; split <;> (try split) <;> simp
  rcases hM with ⟨h1, _⟩ | ⟨_, h3, _⟩ | ⟨i, l, l', hi, h3, h4, _, h6, rfl⟩
  · rw [hlk] at h1; cases h1
  · rcases h3 with h3 | h3
    · omega
    · exact (h3 (by unfold mb; omega)).elim
  · obtain rfl : i = 0 := by omega
    rcases lay_view h3 (h48 0 l h3) h6 with ⟨q, hq, rfl, rfl, _, _, hpos, hsh, hat⟩ | ⟨_, _, _, h7⟩
    · have := hpos (by omega)
      obtain rfl : q = 0 := by omega
      refine ⟨rfl, rfl, fun y => (hsh y).trans (h.op y), fun a b => ?_⟩
      rw [hat, hno]
      by_cases ha : a = 0 <;> by_cases hb : b = 0 <;> simp [ha, hb, rootC]
    · rcases h7 with ⟨h8, _⟩ | ⟨_, h8⟩ | ⟨_, y, h8⟩
      · omega
      · omega
      · have := hno 0 0
        rw [show ((0 : Nat) : Int) = 0 from rfl] at this h8
        rw [h8] at this; cases this
end Go.Proofs.Ytimfgjndgfjjgaa
