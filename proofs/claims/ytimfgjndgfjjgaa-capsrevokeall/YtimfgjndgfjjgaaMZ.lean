import Derived.ArgAppend
import Derived.Test.YtimfgjndgfjjgaaMY
namespace Go.Proofs.Ytimfgjndgfjjgaa
open Go.RowKit Go.Shelf

theorem sorted_ext {α : Type} {R : α → α → Prop} (hir : ∀ a, ¬ R a a) (has : ∀ a b, R a b → ¬ R b a) : ∀ (l m : List α), l.Pairwise R → m.Pairwise R → (∀ x, x ∈ l ↔ x ∈ m) → l = m
  | [], [], _, _, _ => rfl
  | [], b :: m, _, _, h => by have := (h b).2 (by simp); cases this
  | a :: l, [], _, _, h => by have := (h a).1 (by simp); cases this
  | a :: l, b :: m, hl, hm, h => by
    obtain ⟨hl1, hl2⟩ := List.pairwise_cons.1 hl
    obtain ⟨hm1, hm2⟩ := List.pairwise_cons.1 hm
    have e : a = b := by
      rcases List.mem_cons.1 ((h a).1 (by simp)) with e | h1
      · exact e
      · rcases List.mem_cons.1 ((h b).2 (by simp)) with e | h2
        · exact e.symm
        · exact (has _ _ (hm1 a h1) (hl1 b h2)).elim
    subst e
    rw [sorted_ext hir has l m hl2 hm2 fun x => ⟨fun hx => ?_, fun hx => ?_⟩]
    · rcases List.mem_cons.1 ((h x).1 (List.mem_cons_of_mem _ hx)) with rfl | h1
      · exact (hir _ (hl1 _ hx)).elim
      · exact h1
    · rcases List.mem_cons.1 ((h x).2 (List.mem_cons_of_mem _ hx)) with rfl | h1
      · exact (hir _ (hm1 _ hx)).elim
      · exact h1
theorem plt_irr (a : Nat × Nat) : ¬ PLt a a := by unfold PLt; omega
theorem plt_asym (a b : Nat × Nat) (h : PLt a b) : ¬ PLt b a := by unfold PLt at *; omega
def rootC (s : Int) : Rc := ⟨1, 5, s, 15, -1, -1⟩
def childC (s : Int) : Rc := ⟨1, 5, s, 5, 0, 0⟩
/-- the root in list 0, and so many of its children in each other list -/
structure Kp (bk : List (Option Lst)) (s : Option Int) (c : Nat → Nat) (o : Nat → Bool) : Prop where
  op : ∀ x : Nat, (look bk (x : Int)).isSome = o x
  at_ : ∀ a b : Nat, atB bk (a : Int) (b : Int) = if a = 0 then (if b = 0 then s.map rootC else none) else if b < c a then s.map childC else none
theorem Begun.kp {bk : List (Option Lst)} (h : Begun bk 1 5 7 15) : Kp bk (some 7) (fun _ => 0) (fun x => decide (x < 4)) where
  op := h.four
  at_ := fun a b => by
    rw [h.at0]
    by_cases ha : a = 0 <;> by_cases hb : b = 0 <;> simp [ha, hb, rootC]
theorem Kp.rk {bk : List (Option Lst)} {s : Option Int} {c : Nat → Nat} {o : Nat → Bool} (h : Kp bk s c o) : Rk bk (fun a _ => if a = 0 then 0 else 1) := by
  intro e t r hr
  obtain ⟨a, b, _, rfl, rfl, _, _, _⟩ := atB_some hr
  rw [h.at_] at hr
  split at hr
  · split at hr
    · cases s with
      | none => cases hr
      | some s => simp at hr; subst hr; exact .inl ⟨rfl, rfl⟩
    · cases hr
  · rename_i ha
    split at hr
    · cases s with
      | none => cases hr
      | some s =>
        simp at hr; subst hr
        refine .inr ⟨⟨rootC s, ?_⟩, ?_⟩
        · have := h.at_ 0 0
          simpa [childC] using this
        · simp [childC, ha]
    · cases hr
/-- one more child -/
theorem Kp.derive {bk bk' : List (Option Lst)} {s : Int} {c : Nat → Nat} {o : Nat → Bool} (h : Kp bk (some s) c o) (h48 : ∀ (i : Nat) (l : Lst), bk[i]? = some (some l) → l.length = 48) {x : Nat} (hx : x ≠ 0) (ho : o x = true) (hc : c x < 48) {v k : Int} (hD : DeriveR bk 0 0 x (-1) 5 v k bk') :
    v = c x ∧ k = 0 ∧ Kp bk' (some s) (fun y => if y = x then c x + 1 else c y) o := by
  have h0 : atB bk 0 0 = some (rootC s) := by have := h.at_ 0 0; simpa using this
  obtain ⟨l0, hl0, hlk⟩ := look_len (i := x) (by rw [h.op]; exact ho)
  have hok : okR 5 (rootC s) = true := show (bits .andNot .i64 (bits .or .i64 5 4) 15 == 0) = true by decide
  rcases hD with ⟨h1, _⟩ | ⟨_, h1, _⟩ | ⟨_, _, h1, _⟩ | ⟨_, ⟨q, h1, h2⟩, _⟩ | ⟨i, l, l', q, hi, h3, h4, _, _, _, h6, rfl⟩
  · rw [hlk] at h1; cases h1
  · rw [h0] at h1; cases h1
  · omega
  · rw [h0] at h1; cases h1; rw [hok] at h2; cases h2
  · obtain rfl : x = i := by omega
    rw [h0] at h4; cases h4
    have hfree : ∀ j : Nat, atB bk (x : Int) (j : Int) = if j < c x then some (childC s) else none := fun j => by rw [h.at_, if_neg hx]; rfl
    rcases lay_view h3 (h48 x l h3) h6 with ⟨p, hp, rfl, rfl, hpf, hlow, _, hsh, hat⟩ | ⟨_, _, _, h7⟩
    · have hp1 : ¬ p < c x := fun e => by rw [hfree, if_pos e] at hpf; cases hpf
      have hp2 : ¬ c x < p := fun e => hlow (by omega) (c x) e (by rw [hfree, if_neg (by omega)])
      have hpe : p = c x := by omega
      subst hpe
      refine ⟨rfl, rfl, fun y => (hsh y).trans (h.op y), fun a b => ?_⟩
      rw [hat, h.at_]
      by_cases ha : a = x
      · subst ha
        by_cases hb : b = c a
        · subst hb; simp [hx, childC, rootC]
        · by_cases hb2 : b < c a
          · simp [hx, hb, hb2, show b < c a + 1 by omega]
          · simp [hx, hb, hb2, show ¬ b < c a + 1 by omega]
      · simp [ha]
    · rcases h7 with ⟨_, h8⟩ | h8 | ⟨h8, _⟩
      · exact (h8 (c x) hc (by rw [hfree, if_neg (by omega)])).elim
      · omega
      · omega
/-- what List tells -/
def kids (s : Int) (n : Nat) : List (Nat × Rc) := (List.range n).map (fun j => (j, childC s))
theorem kids_sorted (s : Int) (n : Nat) : (kids s n).Pairwise (fun a b => a.1 < b.1) := by
  unfold kids
  rw [List.pairwise_map]
  exact List.pairwise_lt_range
theorem Kp.prs {bk : List (Option Lst)} {s : Int} {c : Nat → Nat} {o : Nat → Bool} (h : Kp bk (some s) c o) {x : Nat} (hx : x ≠ 0) {l : Lst} (hl : bk[x]? = some (some l)) : Go.Proofs.Ytimfgjndgfjjgaa.prs l 0 = kids s (c x) := by
  refine sorted_ext (R := fun a b => a.1 < b.1) (fun a => by omega) (fun a b => by omega) _ _ (prsL_sorted _ _) (kids_sorted _ _) fun y => ?_
  obtain ⟨j, r⟩ := y
  rw [prs_mem]
  have h1 := h.at_ x j
  rw [atN_eq hl, if_neg hx] at h1
  unfold kids
  rw [List.mem_map]
  constructor
  · intro h2
    rw [h2] at h1
    by_cases e : j < c x
    · rw [if_pos e] at h1
      simp at h1
      exact ⟨j, List.mem_range.2 e, by rw [h1]⟩
    · rw [if_neg e] at h1; simp at h1
  · rintro ⟨i, hi, he⟩
    cases he
    rw [if_pos (List.mem_range.1 hi)] at h1
    cases hj : l[j]? with
    | none => rw [hj] at h1; simp at h1
    | some q => rw [hj] at h1; simp at h1; rw [h1]
/-- the places that all but the root are at, where one list alone has some -/
theorem Kp.bel {bk : List (Option Lst)} {s : Int} {c : Nat → Nat} {o : Nat → Bool} (h : Kp bk (some s) c o) {x : Nat} (hx : x ≠ 0) (hc : ∀ y, y ≠ x → c y = 0) {n : Nat} {ps : List (Nat × Nat)} (hd : Dep n bk (0, 0)) (hs : ps.Pairwise PLt) (hp : List.Perm ps (Go.Proofs.Ytimfgjndgfjjgaa.bel n bk (0, 0))) : ps = (List.range (c x)).map (fun j => (x, j)) := by
  have hch : ∀ d : Nat × Nat, d ∈ pls (chP 0 0) bk ↔ d.1 = x ∧ d.2 < c x := by
    intro d
    rw [show d = (d.1, d.2) from rfl, mem_pls]
    rw [h.at_]
    constructor
    · rintro ⟨r, hr, hr2⟩
      split at hr
      · split at hr
        · simp at hr; subst hr; simp [chP, rootC] at hr2
        · cases hr
      · split at hr
        · rename_i hlt
          by_cases e : d.1 = x
          · rw [e] at hlt; exact ⟨e, hlt⟩
          · rw [hc _ e] at hlt; omega
        · cases hr
    · rintro ⟨e, hlt⟩
      refine ⟨childC s, ?_, by simp [chP, childC]⟩
      rw [if_neg (by rw [e]; exact hx), if_pos (by rw [e]; exact hlt)]; rfl
  have hno : ∀ m (d : Nat × Nat), d.1 ≠ 0 → Go.Proofs.Ytimfgjndgfjjgaa.bel m bk d = [] := by
    intro m d hd
    cases m with
    | zero => rfl
    | succ m =>
      unfold Go.Proofs.Ytimfgjndgfjjgaa.bel
      have : pls (chP d.1 d.2) bk = [] := by
        refine List.eq_nil_iff_forall_not_mem.2 fun y hy => ?_
        rw [show y = (y.1, y.2) from rfl, mem_pls] at hy
        obtain ⟨r, hr, hr2⟩ := hy
        rw [h.at_] at hr
        simp only [chP, Bool.and_eq_true, decide_eq_true_eq] at hr2
        split at hr
        · split at hr
          · simp at hr; subst hr; simp [rootC] at hr2
          · cases hr
        · split at hr
          · simp at hr; subst hr; simp [childC] at hr2; omega
          · cases hr
      rw [this]; rfl
  refine sorted_ext plt_irr plt_asym _ _ hs ?_ fun d => ?_
  · rw [List.pairwise_map]
    exact List.pairwise_lt_range.imp (fun h => .inr ⟨rfl, h⟩)
  · rw [hp.mem_iff]
    cases n with
    | zero => exact hd.elim
    | succ n =>
      unfold Go.Proofs.Ytimfgjndgfjjgaa.bel
      rw [List.mem_flatMap, List.mem_map]
      constructor
      · rintro ⟨e, he, hde⟩
        obtain ⟨e1, e2⟩ := (hch e).1 he
        rw [hno n e (by rw [e1]; exact hx)] at hde
        simp at hde
        subst hde
        exact ⟨d.2, List.mem_range.2 e2, Prod.ext e1.symm rfl⟩
      · rintro ⟨j, hj, rfl⟩
        exact ⟨(x, j), (hch _).2 ⟨rfl, List.mem_range.1 hj⟩, by simp⟩
theorem Kp.revoked {bk : List (Option Lst)} {s : Int} {c : Nat → Nat} {o : Nat → Bool} (h : Kp bk (some s) c o) {x : Nat} (hx : x ≠ 0) (hc : ∀ y, y ≠ x → c y = 0) : Kp (rmv bk ((List.range (c x)).map (fun j => (x, j)))) (some s) (fun _ => 0) o := by
  obtain ⟨hsh, hat⟩ := rmv_at ((List.range (c x)).map (fun j => (x, j))) bk
    (List.pairwise_lt_range.map _ (fun a b hab => by intro e; simp at e; omega))
    (fun p hp => by
      obtain ⟨j, hj, rfl⟩ := List.mem_map.1 hp
      refine ⟨childC s, ?_⟩
      have h1 := h.at_ x j
      rw [if_neg hx, if_pos (List.mem_range.1 hj)] at h1
      exact h1)
  refine ⟨fun y => (hsh y).trans (h.op y), fun a b => ?_⟩
  rw [hat, h.at_]
  by_cases ha : a = 0
  · subst ha
    rw [if_neg]
    · simp
    · rw [List.mem_map]; rintro ⟨j, _, e⟩; simp at e; omega
  · simp only [ha, if_false]
    by_cases e : a = x
    · subst e
      by_cases hb : b < c a
      · rw [if_pos (List.mem_map.2 ⟨b, List.mem_range.2 hb, rfl⟩)]; simp
      · rw [if_neg hb]; simp
    · rw [hc a e]; simp
/-- what Shut leaves -/
theorem Kp.shut {bk bk' : List (Option Lst)} {s : Int} {c : Nat → Nat} {o : Nat → Bool} (h : Kp bk (some s) c o) {x : Nat} (hx : x ≠ 0) {l : Lst} (hl : bk[x]? = some (some l)) (hd : Drops (plc x (Go.Proofs.Ytimfgjndgfjjgaa.prs l 0)) bk bk') :
    Kp (bk'.set x none) (some s) (fun y => if y = x then 0 else c y) (fun y => if y = x then false else o y) := by
  have key : ∀ {ps : List (Nat × Nat)} {b1 b2 : List (Option Lst)}, Drops ps b1 b2 → (∀ p ∈ ps, p.1 ≠ 0) → (∀ (a b : Nat) (r : Rc), atB b1 (a : Int) (b : Int) = some r → r.e = 0 ∨ r.e = -1) → ∀ a b : Nat, atB b2 (a : Int) (b : Int) = if (a, b) ∈ ps then none else atB b1 (a : Int) (b : Int) := by
    intro ps b1 b2 hd
    induction hd using Drops.ind with
    | nil bk => intro _ _ a b; simp
    | snoc h0 hr hd ih =>
      rename_i ps bk m bk' p r
      intro h1 h2 a b
      have ih' := ih (fun q hq => h1 q (by simp [hq])) h2
      rw [hd.2]
      by_cases e : a = p.1 ∧ b = p.2
      · rw [if_pos e, if_pos (by rw [show (a, b) = p from Prod.ext e.1 e.2]; simp)]
      · rw [if_neg e, ih']
        have hne : (a, b) ≠ p := fun h => e ⟨congrArg Prod.fst h, congrArg Prod.snd h⟩
        by_cases hin : (a, b) ∈ ps
        · simp [hin]
        · simp only [List.mem_append, List.mem_cons, List.not_mem_nil, or_false, hin, hne, if_false]
          cases hb : atB bk (a : Int) (b : Int) with
          | none => rfl
          | some q =>
            simp only [Option.map_some]
            congr 1
            unfold rp
            rw [if_neg]
            rintro ⟨e1, _⟩
            have := h2 a b q hb
            have := h1 p (by simp)
            omega
  have hpl := h.prs hx hl
  have hat := key hd (fun p hp => by obtain ⟨y, _, rfl⟩ := List.mem_map.1 hp; exact hx) (fun a b r hr => by
    rw [h.at_] at hr
    split at hr
    · split at hr
      · simp at hr; subst hr; exact .inr rfl
      · cases hr
    · split at hr
      · simp at hr; subst hr; exact .inl rfl
      · cases hr)
  obtain ⟨l', hl'⟩ := shape_open hd.here.1 hl
  refine ⟨fun y => ?_, fun a b => ?_⟩
  · rw [look_nat]
    by_cases e : y = x
    · subst e
      rw [List.getElem?_set_self (List.getElem?_eq_some_iff.1 hl').1]; simp
    · rw [List.getElem?_set_ne (fun e' => e e'.symm)]
      have := (hd.here.1 (y : Int)).trans (h.op y)
      rw [look_nat] at this
      simp only [e, if_false]
      exact this
  · rw [shut_view hl hd, hat, h.at_]
    by_cases e : a = x
    · subst e
      simp only [hx, if_false, if_true]
      by_cases hb : b < c a
      · rw [if_pos]
        · simp
        · rw [hpl]
          exact List.mem_map.2 ⟨(b, childC s), List.mem_map.2 ⟨b, List.mem_range.2 hb, rfl⟩, rfl⟩
      · simp [hb]
    · rw [if_neg]
      · simp [e]
      · intro hin
        obtain ⟨y, _, e2⟩ := List.mem_map.1 hin
        simp at e2
        exact e e2.1.symm
/-- what Purge tells: the root, and then what one list has -/
theorem Kp.pls {bk : List (Option Lst)} {s : Int} {c : Nat → Nat} {o : Nat → Bool} (h : Kp bk (some s) c o) {x : Nat} (hx : x ≠ 0) (hc : ∀ y, y ≠ x → c y = 0) : Go.Proofs.Ytimfgjndgfjjgaa.pls (fun r => decide (r.k = 1) && decide (r.o = 5)) bk = (0, 0) :: (List.range (c x)).map (fun j => (x, j)) := by
  refine sorted_ext plt_irr plt_asym _ _ (pls_sorted _ _) ?_ fun d => ?_
  · rw [List.pairwise_cons]
    refine ⟨fun d hd => ?_, ?_⟩
    · obtain ⟨j, _, rfl⟩ := List.mem_map.1 hd
      exact .inl (by show 0 < x; omega)
    · rw [List.pairwise_map]
      exact List.pairwise_lt_range.imp (fun h => .inr ⟨rfl, h⟩)
  · rw [show d = (d.1, d.2) from rfl, mem_pls, h.at_, List.mem_cons, List.mem_map]
    constructor
    · rintro ⟨r, hr, _⟩
      split at hr
      · split at hr
        · rename_i e1 e2
          exact .inl (Prod.ext e1 e2)
        · cases hr
      · split at hr
        · rename_i hlt
          by_cases e : d.1 = x
          · rw [e] at hlt; exact .inr ⟨d.2, List.mem_range.2 hlt, Prod.ext e.symm rfl⟩
          · rw [hc _ e] at hlt; omega
        · cases hr
    · rintro (e | ⟨j, hj, e⟩)
      · refine ⟨rootC s, ?_, by simp [rootC]⟩
        have e1 : d.1 = 0 := congrArg Prod.fst e
        have e2 : d.2 = 0 := congrArg Prod.snd e
        simp [e1, e2]
      · refine ⟨childC s, ?_, by simp [childC]⟩
        have e1 : d.1 = x := (congrArg Prod.fst e).symm
        have e2 : d.2 = j := (congrArg Prod.snd e).symm
        rw [e1, e2, if_neg hx, if_pos (List.mem_range.1 hj)]; rfl
theorem Kp.purged {bk : List (Option Lst)} {s : Int} {c : Nat → Nat} {o : Nat → Bool} (h : Kp bk (some s) c o) {x : Nat} (hx : x ≠ 0) (hc : ∀ y, y ≠ x → c y = 0) : Kp (rmv bk ((0, 0) :: (List.range (c x)).map (fun j => (x, j)))) none (fun _ => 0) o := by
  rw [← h.pls hx hc]
  obtain ⟨hsh, hat⟩ := rmv_at (Go.Proofs.Ytimfgjndgfjjgaa.pls (fun r => decide (r.k = 1) && decide (r.o = 5)) bk) bk (pls_nodup _ _) (fun p hp => by obtain ⟨r, hr, _⟩ := mem_pls.1 (show (p.1, p.2) ∈ _ from hp); exact ⟨r, hr⟩)
  refine ⟨fun y => (hsh y).trans (h.op y), fun a b => ?_⟩
  rw [hat]
  have : atB bk (a : Int) (b : Int) ≠ none → (a, b) ∈ Go.Proofs.Ytimfgjndgfjjgaa.pls (fun r => decide (r.k = 1) && decide (r.o = 5)) bk := by
    intro hn
    cases hb : atB bk (a : Int) (b : Int) with
    | none => exact (hn hb).elim
    | some r =>
      refine mem_pls.2 ⟨r, hb, ?_⟩
      rw [h.at_] at hb
      split at hb
      · split at hb
        · simp at hb; subst hb; simp [rootC]
        · cases hb
      · split at hb
        · simp at hb; subst hb; simp [childC]
        · cases hb
  by_cases e : atB bk (a : Int) (b : Int) = none
  · rw [e]; simp
  · rw [if_pos (this e)]; simp
theorem Kp.mint {bk bk' : List (Option Lst)} {o : Nat → Bool} (h : Kp bk none (fun _ => 0) o) (h48 : ∀ (i : Nat) (l : Lst), bk[i]? = some (some l) → l.length = 48) (ho : o 0 = true) {v c : Int} (hM : MintR bk 0 0 1 5 8 15 v c bk') : v = 0 ∧ c = 0 ∧ Kp bk' (some 8) (fun _ => 0) o := by
  obtain ⟨l0, hl0, hlk⟩ := look_len (i := 0) (by rw [h.op]; exact ho)
  rw [show ((0 : Nat) : Int) = 0 from rfl] at hlk
  have hno : ∀ a b : Nat, atB bk (a : Int) (b : Int) = none := fun a b => by rw [h.at_]; split <;> (try split) <;> simp
  rcases hM with ⟨h1, _⟩ | ⟨_, h3, _⟩ | ⟨i, l, l', hi, h3, h4, _, h6, rfl⟩
  · rw [hlk] at h1; cases h1
  · rcases h3 with h3 | h3
    · omega
    · exact (h3 (by unfold mb; omega)).elim
  · obtain rfl : i = 0 := by omega
    rcases lay_view h3 (h48 0 l h3) h6 with ⟨q, hq, rfl, rfl, _, _, hpos, hsh, hat⟩ | ⟨_, _, _, h7⟩
    · have := hpos (by omega)
      obtain rfl : q = 0 := by omega
      refine ⟨rfl, rfl, fun y => (hsh y).trans (h.op y), fun a b => ?_⟩
      rw [hat, hno]
      by_cases ha : a = 0 <;> by_cases hb : b = 0 <;> simp [ha, hb, rootC]
    · rcases h7 with ⟨h8, _⟩ | ⟨_, h8⟩ | ⟨_, y, h8⟩
      · omega
      · omega
      · have := hno 0 0
        rw [show ((0 : Nat) : Int) = 0 from rfl] at this h8
        rw [h8] at this; cases this
end Go.Proofs.Ytimfgjndgfjjgaa

namespace Go.Proofs.Ytimfgjndgfjjgaa
open Go.RowKit Go.Shelf

abbrev Hd := Int × (Nat × Rc)
theorem encA_hs (e : Int) (m : List (Nat × Rc)) : encHs e m = encA (m.map (fun x => (e, x))) := by simp [encA, encHs, List.flatMap_map]
theorem encT_of {bk : List (Option Lst)} {R : Nat × Nat → Rc} {ps : List (Nat × Nat)} (h : ∀ p ∈ ps, atB bk (p.1 : Int) (p.2 : Int) = some (R p)) : encT bk ps = encA (ps.map (fun p => ((p.1 : Int), (p.2, R p)))) := by
  induction ps with
  | nil => rfl
  | cons p t ih =>
    have h1 := h p (by simp)
    have h2 := ih (fun q hq => h q (by simp [hq]))
    simp only [encT, encA, List.flatMap_cons, List.map_cons] at h2 ⊢
    rw [h2, h1]
/-- slots that bear numbers from f on -/
def Bears (f : Nat) (l : List Hd) : Prop := ∀ i (hi : i < l.length), l[i].2.1 = f + i
/-- a row of the law's own, apart from the book -/
structure Rw (n0 : Nat) (wr : World) (F : Nat → Prop) (v : Value) (l : List Hd) : Prop where
  row : wr.ownsRow n0 54 6 v l.length (encA l)
  nf : ∀ g, v.ownBlock = some g → ¬ F g
section
variable {n0 : Nat} {w w' : World} {F F' : Nat → Prop} {v : Value} {l : List Hd}
theorem Rw.ext (h : Rw n0 w F v l) (hE : Ext F w F' w') : Rw n0 w' F' v l := by
  refine ⟨?_, fun g hg hf => ?_⟩
  · obtain ⟨h1, h2 | ⟨g, cap, cur, h2, h3, h4, h5⟩⟩ := h.row
    · exact ⟨h1, .inl h2⟩
    · exact ⟨h1, .inr ⟨g, cap, cur, h2, h3, (hE.mod.block g (Array.getElem?_eq_some_iff.1 h4).1 (h.nf g (by rw [h2]; rfl))).trans h4, h5⟩⟩
  · rcases hE.new g hf with h1 | h1
    · exact h.nf g hg h1
    · have := (h.row.lt g hg).2; omega
theorem Rw.held (h : Rw n0 w F v l) : HeldAt w v l := HeldAt.of_row h.row
/-- another row was written -/
theorem Rw.kept (h : Rw n0 w F v l) {r : Option Nat} (hg : w.grownBy w' r) (hne : ∀ g, v.ownBlock = some g → r ≠ some g) : Rw n0 w' F v l := by
  refine ⟨h.row.kept hg ?_, h.nf⟩
  cases hv : v.ownBlock with
  | none => exact .inl rfl
  | some g => exact .inr (fun e => hne g hv e.symm)
theorem book_kept {B : Nat} {bk : List (Option Lst)} (hb : Book w F B bk) (hr : Rw n0 w F v l) (hg : w.grownBy w' v.ownBlock) : Book w' F B bk :=
  hb.keep hg.size (fun b hf => hg.block b (hb.lt b hf) (fun e => hr.nf b e.symm hf))
end
theorem encA_set {l : List Hd} {k : Nat} (hk : k < l.length) (z : Nat) : (encA l).set (k * 6 + 1) (.int .i64 (z : Int)) = encA (l.set k (l[k].1, (z, l[k].2.2))) := by
  apply List.ext_getElem?
  intro j
  have hlen := encA_len l
  have hlen2 := encA_len (l.set k (l[k].1, (z, l[k].2.2)))
  rw [List.length_set] at hlen2
  by_cases hj : j < l.length * 6
  · obtain ⟨q, i, hi, rfl⟩ : ∃ q i, i < 6 ∧ j = q * 6 + i := ⟨j / 6, j % 6, Nat.mod_lt _ (by omega), by omega⟩
    have hq : q < l.length := by omega
    rw [encA_at (l := l.set k (l[k].1, (z, l[k].2.2))) (by rw [List.length_set]; exact hq) i hi, List.getElem?_set]
    by_cases e : k = q
    · subst e
      rw [List.getElem_set_self]
      by_cases e2 : i = 1
      · subst e2; rw [if_pos rfl, if_pos (by omega)]; rfl
      · rw [if_neg (by omega), encA_at hk i hi]
        have : i = 0 ∨ i = 2 ∨ i = 3 ∨ i = 4 ∨ i = 5 := by omega
        rcases this with rfl | rfl | rfl | rfl | rfl <;> rfl
    · rw [if_neg (by omega), encA_at hq i hi, List.getElem_set_ne e]
  · rw [List.getElem?_eq_none (by rw [List.length_set]; omega), List.getElem?_eq_none (by omega)]
set_option maxRecDepth 8000 in
set_option maxHeartbeats 3200000 in
theorem mark_any (w : World) (n0 : Nat) (v : Value) (l : List Hd) (f : Nat) (h : w.ownsRow n0 54 6 v l.length (encA l)) (hn : l.length ≤ 768) (hf : f ≤ 1000) :
    Calls Try.prog 56 #[v, .int .i64 (f : Int)] w fun x w' => x = .returned (.tuple #[]) ∧ ∃ l' : List Hd, l'.length = l.length ∧ Bears f l' ∧ w'.ownsRow n0 54 6 v l'.length (encA l') ∧ w.grownBy w' v.ownBlock := by
  obtain ⟨L, hL⟩ : ∃ L, l.length = L := ⟨_, rfl⟩
  obtain ⟨a, c, rfl⟩ := own_shape h
  rw [hL] at hn h ⊢
  have HH := hide h
  have HL := hide hL
  clear h hL
  go_enter Try.func56, Try.ntmps56
  go_wp2_with fail
  go_loopw [4] (fun x wr => ∃ (k : Nat) (l' : List Hd), k ≤ L ∧ x = .int .i64 (k : Int) ∧ Hid (l'.length = L ∧ (∀ i (hi : i < l'.length), i < k → l'[i].2.1 = f + i) ∧ wr.ownsRow n0 54 6 (.slice a L c) L (encA l') ∧ w.grownBy wr (Value.slice a L c).ownBlock)) (fun x _ => L - (intOf x).toNat)
  case atStart => exact ⟨0, l, by omega, rfl, hide ⟨HL.out, fun i hi h0 => by omega, HH.out, ⟨rfl, rfl, rfl, Nat.le_refl _, fun _ _ _ => rfl⟩⟩⟩
  case round =>
  obtain ⟨k, l', hk, rfl, K1⟩ := hrel
  by_cases hlt : k < L
  · obtain ⟨e1, e2, e3, e4⟩ := K1.out
    obtain ⟨g, rfl⟩ : ∃ g, a = some ⟨g, 0, none⟩ := by
      obtain ⟨_, ⟨h0, h00⟩ | ⟨g0, cap, cur, hv0, _⟩⟩ := e3
      · omega
      · cases hv0; exact ⟨_, rfl⟩
    have hlt' : k < l'.length := by rw [e1]; exact hlt
    have hc : wr.cell? ⟨g, k * 6 + 1, none⟩ = some (.int .i64 (l'[k].2.1 : Int)) := by rw [e3.cellAt (k * 6 + 1) (by omega), encA_at hlt' 1 (by omega)]; rfl
    have hfz := e3.frozenAt (k * 6 + 1)
    have hst := e3.stored (k * 6 + 1) (.int .i64 ((f + k : Nat) : Int))
    rw [encA_set hlt'] at hst
    have HK : Hid (∃ l2 : List Hd, l2.length = L ∧ (∀ i (hi : i < l2.length), i < k + 1 → l2[i].2.1 = f + i) ∧ (wr.setCell ⟨g, k * 6 + 1, none⟩ (.int .i64 ((f + k : Nat) : Int))).ownsRow n0 54 6 (.slice (some ⟨g, 0, none⟩) L c) L (encA l2) ∧ w.grownBy (wr.setCell ⟨g, k * 6 + 1, none⟩ (.int .i64 ((f + k : Nat) : Int))) (some g)) := by
      refine hide ⟨_, by rw [List.length_set]; exact e1, fun i hi hik => ?_, hst.1, ?_⟩
      · rw [List.getElem_set]
        split
        · rename_i e; subst e; rfl
        · rename_i e
          exact e2 i (by rw [List.length_set] at hi; exact hi) (by omega)
      · have h1 := e4
        have h2 := hst.2
        exact ⟨h2.os.trans h1.os, h2.tape.trans h1.tape, h2.output.trans h1.output, Nat.le_trans h1.size h2.size, fun b hb hne => (h2.block b (Nat.lt_of_lt_of_le hb h1.size) hne).trans (h1.block b hb hne)⟩
    have hfk : ((f + k : Nat) : Int) = (f : Int) + (k : Int) := by omega
    rw [hfk] at HK
    have hkl : (k : Int) < (L : Int) := by omega
    have hwk : k * 6 + 5 < L * 6 := by omega
    clear e1 e2 e3 e4 hst K1 hfk
    go_wp2
    go_roundw
    case rel =>
      obtain ⟨l2, q1, q2, q3, q4⟩ := HK.out
      first
        | exact ⟨k + 1, l2, by omega, by go_num, hide ⟨q1, q2, q3, q4⟩⟩
        | ((repeat apply Exists.intro); refine ⟨?_, rfl⟩; exact ⟨k + 1, l2, by omega, by go_num, hide ⟨q1, q2, q3, q4⟩⟩)
    case measure => simp [intOf]; omega
  · have hd : decide ((k : Int) < (L : Int)) = false := by simp; omega
    have HK : Hid (∃ l2 : List Hd, l2.length = L ∧ Bears f l2 ∧ wr.ownsRow n0 54 6 (.slice a L c) l2.length (encA l2) ∧ w.grownBy wr (Value.slice a L c).ownBlock) := by
      obtain ⟨e1, e2, e3, e4⟩ := K1.out
      exact hide ⟨l', e1, fun i hi => e2 i hi (by omega), by rw [e1]; exact e3, e4⟩
    clear K1
    go_wp2
    go_end0
    exact ⟨rfl, HK.out⟩
set_option maxRecDepth 8000 in
set_option maxHeartbeats 3200000 in
theorem bears_any (w : World) (v : Value) (l : List Hd) (f : Nat) (h : HeldAt w v l) (hn : l.length ≤ 768) (h0 : 0 < l.length) (hf : f ≤ 1000) (hb : Bears f l) :
    Calls Try.prog 58 #[v, .int .i64 (f : Int)] w fun x w' => x = .returned (.bool true) ∧ w' = w := by
  obtain ⟨L, hL⟩ : ∃ L, l.length = L := ⟨_, rfl⟩
  obtain ⟨a, c, rfl, hc⟩ := h
  rw [hL] at hn h0 ⊢
  have HC := hide hc
  have HB := hide hb
  have HL := hide hL
  clear hc hb hL
  go_enter Try.func58, Try.ntmps58
  go_wp2_with fail
  go_loopw [5] (fun x wr => wr = w ∧ ∃ k : Nat, k ≤ L ∧ x = .int .i64 (k : Int)) (fun x _ => L - (intOf x).toNat)
  case atStart => exact ⟨rfl, 0, by omega, rfl⟩
  case round =>
  obtain ⟨rfl, k, hk, rfl⟩ := hrel
  by_cases hlt : k < L
  · have hlt' : k < l.length := by rw [HL.out]; exact hlt
    obtain ⟨g, rfl, _, _, q1, _, _, _, _⟩ := HC.out k hlt'
    rw [HB.out k hlt'] at q1
    have hkl : (k : Int) < (L : Int) := by omega
    have hwk : k * 6 + 5 < L * 6 := by omega
    have hfk : ((f + k : Nat) : Int) = (f : Int) + (k : Int) := by omega
    rw [hfk] at q1
    go_wp2
    go_roundw
    case rel =>
      exact ⟨by first | rfl | trivial, k + 1, by omega, by go_num⟩
    case measure => simp [intOf]; omega
  · have hd : decide ((k : Int) < (L : Int)) = false := by simp; omega
    have hd2 : decide (0 < (L : Int)) = true := by simp; omega
    go_wp2
    go_ret
    exact ⟨rfl, rfl⟩
set_option maxRecDepth 8000 in
set_option maxHeartbeats 3200000 in
theorem refilled_any (w : World) (F : Nat → Prop) (B : Nat) (bk : List (Option Lst)) (h : Book w F B bk) (s : Int) (c : Nat → Nat) (o : Nat → Bool) (hk : Kp bk (some s) c o) (x n : Nat) (hx : x ≠ 0) (ho : o x = true) (hc : c x + n ≤ 48) :
    Calls Try.prog 57 #[.pointer (some ⟨B, 0, none⟩), .int .i64 (x : Int), .int .i64 (n : Int)] w fun e w' => e = .returned (.bool true) ∧ ∃ F' bk', Book w' F' B bk' ∧ Ext F w F' w' ∧ Kp bk' (some s) (fun y => if y = x then c x + n else c y) o := by
  have H0 : Hid (∃ F' bk', Book w F' B bk' ∧ Ext F w F' w ∧ Kp bk' (some s) (fun y => if y = x then c x + 0 else c y) o) := hide ⟨F, bk, h, Ext.refl _ _, by
    have : (fun y => if y = x then c x + 0 else c y) = c := by funext y; split <;> simp_all
    rw [this]; exact hk⟩
  clear h hk
  go_enter Try.func57, Try.ntmps57
  go_wp2_with fail
  go_loopw [7] (fun u wr => ∃ k : Nat, k ≤ n ∧ u = .int .i64 (k : Int) ∧ Hid (∃ F' bk', Book wr F' B bk' ∧ Ext F w F' wr ∧ Kp bk' (some s) (fun y => if y = x then c x + k else c y) o)) (fun u _ => n - (intOf u).toNat)
  case atStart => exact ⟨0, by omega, rfl, H0⟩
  case round =>
  clear H0
  obtain ⟨k, hkn, rfl, K1⟩ := hrel
  by_cases hlt : k < n
  · obtain ⟨F1, bk1, h1, h2, h3⟩ := K1.out
    have HD := hide (derive_any wr F1 B bk1 h1 0 0 x (-1) 5)
    have HK := hide (And.intro h1 (And.intro h2 h3))
    have hkl : (k : Int) < (n : Int) := by omega
    clear h1 h2 h3 K1
    go_wp2_with fail
    refine HD.out.mono ?_
    rintro e w2 ⟨v, cc, bk2, F2, rfl, hB2, hE2, hD2⟩
    obtain ⟨h1, h2, h3⟩ := HK.out
    obtain ⟨rfl, rfl, hK2⟩ := h3.derive (fun i l hl => h1.l48 hl) hx ho (by simp only [if_true]; omega) hD2
    have HK2 : Hid (∃ F' bk', Book w2 F' B bk' ∧ Ext F w F' w2 ∧ Kp bk' (some s) (fun y => if y = x then c x + (k + 1) else c y) o) := by
      refine hide ⟨F2, bk2, hB2, h2.trans hE2, ?_⟩
      have : (fun y => if y = x then c x + (k + 1) else c y) = (fun y => if y = x then (if x = x then c x + k else c x) + 1 else (if y = x then c x + k else c y)) := by
        funext y; by_cases e : y = x
        · simp [e]; omega
        · simp [e]
      rw [this]; exact hK2
    clear h1 h2 h3 hB2 hE2 hD2 hK2 HD HK
    go_wp2
    go_roundw
    case rel =>
      first
        | exact ⟨k + 1, by omega, by go_num, HK2⟩
        | ((repeat apply Exists.intro); refine ⟨?_, rfl⟩; exact ⟨k + 1, by omega, by go_num, HK2⟩)
    case measure => simp [intOf]; omega
  · have hd : decide ((k : Int) < (n : Int)) = false := by simp; omega
    obtain rfl : k = n := by omega
    go_wp2
    go_ret
    exact ⟨rfl, K1.out⟩
end Go.Proofs.Ytimfgjndgfjjgaa

namespace Go.Proofs.Ytimfgjndgfjjgaa
open Go.RowKit Go.Shelf

def cc (a b d : Nat) (y : Nat) : Nat := if y = 1 then a else if y = 2 then b else if y = 3 then d else 0
def oo (p q : Bool) (x : Nat) : Bool := decide (x < 4) && (decide (x ≠ 1) || p) && (decide (x ≠ 2) || q)
theorem cc_zero : (fun _ : Nat => 0) = cc 0 0 0 := by funext y; unfold cc; split <;> (try split) <;> (try split) <;> rfl
theorem cc_1 (a b d n : Nat) : (fun y => if y = 1 then cc a b d 1 + n else cc a b d y) = cc (a + n) b d := by funext y; unfold cc; by_cases e : y = 1 <;> simp [e]
theorem cc_2 (a b d n : Nat) : (fun y => if y = 2 then cc a b d 2 + n else cc a b d y) = cc a (b + n) d := by
  funext y; unfold cc; by_cases e : y = 2
  · subst e; simp
  · simp [e]
theorem cc_3 (a b d n : Nat) : (fun y => if y = 3 then cc a b d 3 + n else cc a b d y) = cc a b (d + n) := by
  funext y; unfold cc; by_cases e : y = 3
  · subst e; simp
  · simp [e]
theorem cc_01 (a b d : Nat) : (fun y => if y = 1 then 0 else cc a b d y) = cc 0 b d := by funext y; unfold cc; by_cases e : y = 1 <;> simp [e]
theorem cc_02 (a b d : Nat) : (fun y => if y = 2 then 0 else cc a b d y) = cc a 0 d := by
  funext y; unfold cc; by_cases e : y = 2
  · subst e; simp
  · simp [e]
theorem oo_1 (p q : Bool) : (fun y => if y = 1 then false else oo p q y) = oo false q := by funext y; unfold oo; by_cases e : y = 1 <;> simp [e]
theorem oo_2 (p q : Bool) : (fun y => if y = 2 then false else oo p q y) = oo p false := by funext y; unfold oo; by_cases e : y = 2 <;> simp [e]
theorem oo_four : (fun x : Nat => decide (x < 4)) = oo true true := by funext y; unfold oo; simp
/-- the book of a law, whose world began at W -/
structure Gs (W wr : World) (B : Nat) (F : Nat → Prop) (bk : List (Option Lst)) (s : Option Int) (c : Nat → Nat) (o : Nat → Bool) : Prop where
  book : Book wr F B bk
  kp : Kp bk s c o
  lo : ∀ b, F b → W.heap.size ≤ b
  bel : Below W.heap.size W wr
section
variable {W wr w' : World} {B : Nat} {F F' : Nat → Prop} {bk bk' : List (Option Lst)} {s s' : Option Int} {c c' : Nat → Nat} {o o' : Nat → Bool}
theorem Gs.ext (h : Gs W wr B F bk s c o) (hB : Book w' F' B bk') (hE : Ext F wr F' w') (hk : Kp bk' s' c' o') : Gs W w' B F' bk' s' c' o' := by
  refine ⟨hB, hk, fun b hb => ?_, h.bel.trans (hE.mod.below h.lo h.bel.size)⟩
  rcases hE.new b hb with h1 | h1
  · exact h.lo b h1
  · exact Nat.le_trans h.bel.size h1
theorem Gs.below (h : Gs W wr B F bk s c o) (hb : Below wr.heap.size wr w') : Gs W w' B F bk s c o := h.ext (h.book.below hb) (Ext.of_below hb) h.kp
/-- a row that a call made -/
theorem Gs.row (h : Gs W wr B F bk s c o) {v : Value} {l : List Hd} (hr : w'.ownsRow wr.heap.size 54 6 v l.length (encA l)) : Rw W.heap.size w' F v l :=
  ⟨⟨hr.1, hr.2.imp id (fun ⟨g, cap, cur, q1, q2, q3⟩ => ⟨g, cap, cur, q1, Nat.le_trans h.bel.size q2, q3⟩)⟩, fun g hg hf => by have := (hr.lt g hg).1; have := h.book.lt g hf; omega⟩
theorem Gs.mark (h : Gs W wr B F bk s c o) {v : Value} {l : List Hd} (hr : Rw W.heap.size wr F v l) (hn : l.length ≤ 768) (f : Nat) (hf : f ≤ 1000) (fi : Int) (hfi : fi = (f : Int)) :
    Calls Try.prog 56 #[v, .int .i64 fi] wr fun x w' => x = .returned (.tuple #[]) ∧ ∃ l' : List Hd, l'.length = l.length ∧ Bears f l' ∧ Gs W w' B F bk s c o ∧ Rw W.heap.size w' F v l' ∧ wr.grownBy w' v.ownBlock := by
  subst hfi
  refine (mark_any wr W.heap.size v l f hr.row hn hf).mono ?_
  rintro x w' ⟨rfl, l', h1, h2, h3, h4⟩
  exact ⟨rfl, l', h1, h2, ⟨book_kept h.book hr h4, h.kp, h.lo, h.bel.grown h4 h.bel.size (fun j hj => (hr.row.lt j hj).1)⟩, ⟨h3, hr.nf⟩, h4⟩
theorem Gs.refilled {s : Int} (h : Gs W wr B F bk (some s) c o) (x n : Nat) (hx : x ≠ 0) (ho : o x = true) (hc : c x + n ≤ 48) (xi : Int) (hxi : xi = (x : Int)) :
    Calls Try.prog 57 #[.pointer (some ⟨B, 0, none⟩), .int .i64 xi, .int .i64 (n : Int)] wr fun e w' => e = .returned (.bool true) ∧ ∃ F' bk', Gs W w' B F' bk' (some s) (fun y => if y = x then c x + n else c y) o ∧ Ext F wr F' w' := by
  subst hxi
  refine (refilled_any wr F B bk h.book s c o h.kp x n hx ho hc).mono ?_
  rintro e w' ⟨rfl, F', bk', h1, h2, h3⟩
  exact ⟨rfl, F', bk', h.ext h1 h2 h3, h2⟩
def kidsA (x : Nat) (s : Int) (n : Nat) : List Hd := (List.range n).map (fun j => ((x : Int), (j, childC s)))
theorem kidsA_len (x : Nat) (s : Int) (n : Nat) : (kidsA x s n).length = n := by simp [kidsA]
theorem kidsA_at (x : Nat) (s : Int) (n i : Nat) (h : i < (kidsA x s n).length) : (kidsA x s n)[i] = ((x : Int), (i, childC s)) := by simp [kidsA]
theorem Gs.revoke {s : Int} (h : Gs W wr B F bk (some s) c o) (x : Nat) (hx : x ≠ 0) (hc : ∀ y, y ≠ x → c y = 0) :
    Calls Try.prog 23 #[.pointer (some ⟨B, 0, none⟩), .int .i64 0, .int .i64 0] wr fun e w' => ∃ v bk', e = .returned (.tuple #[v, .int .i64 0]) ∧ Gs W w' B F bk' (some s) (fun _ => 0) o ∧ Ext F wr F w' ∧ Rw W.heap.size w' F v (kidsA x s (c x)) ∧ ∀ g, v.ownBlock = some g → wr.heap.size ≤ g := by
  have h0 : atB bk ((0 : Nat) : Int) ((0 : Nat) : Int) = some (rootC s) := by have := h.kp.at_ 0 0; simpa using this
  refine (revokeSome_any wr F B bk h.book _ h.kp.rk 0 0 _ h0).mono ?_
  rintro e w' ⟨v, ps, n, rfl, h1, h2, h3, h4, h5, h6⟩
  obtain rfl := h.kp.bel hx hc h1 h2 h3
  have hT : encT bk ((List.range (c x)).map (fun j => (x, j))) = encA (kidsA x s (c x)) := by
    rw [encT_of (R := fun _ => childC s)]
    · simp only [kidsA, List.map_map]; rfl
    · intro p hp
      obtain ⟨j, hj, rfl⟩ := List.mem_map.1 hp
      have h1 := h.kp.at_ x j
      rw [if_neg hx, if_pos (List.mem_range.1 hj)] at h1
      exact h1
  rw [hT] at h4
  have h4' : w'.ownsRow wr.heap.size 54 6 v (kidsA x s (c x)).length (encA (kidsA x s (c x))) := by
    rw [kidsA_len]; simpa using h4
  exact ⟨v, _, rfl, h.ext h5 h6 (h.kp.revoked hx hc), h6, h.row h4', fun g hg => (h4'.lt g hg).1⟩
theorem Gs.shut {s : Int} (h : Gs W wr B F bk (some s) c o) (x : Nat) (hx : x ≠ 0) (ho : o x = true) (xi : Int) (hxi : xi = (x : Int)) :
    Calls Try.prog 47 #[.pointer (some ⟨B, 0, none⟩), .int .i64 xi] wr fun e w' => ∃ v bk', e = .returned (.tuple #[v, .int .i64 0]) ∧ Gs W w' B F bk' (some s) (fun y => if y = x then 0 else c y) (fun y => if y = x then false else o y) ∧ Ext F wr F w' ∧ Rw W.heap.size w' F v (kidsA x s (c x)) ∧ ∀ g, v.ownBlock = some g → wr.heap.size ≤ g := by
  obtain ⟨l, hl, _⟩ := look_len (i := x) (by rw [h.kp.op]; exact ho)
  subst hxi
  refine (shut_some wr F B bk h.book x l hl).mono ?_
  rintro e w' ⟨v, bk', rfl, h1, h2, h3, h4⟩
  have hT : encHs (x : Int) (prs l 0) = encA (kidsA x s (c x)) := by
    rw [h.kp.prs hx hl, encA_hs]; simp only [kidsA, kids, List.map_map]; rfl
  have h1' : w'.ownsRow wr.heap.size 54 6 v (kidsA x s (c x)).length (encA (kidsA x s (c x))) := by
    rw [hT, h.kp.prs hx hl] at h1
    rw [kidsA_len]; simpa [kids] using h1
  exact ⟨v, _, rfl, h.ext h2 h3 (h.kp.shut hx hl h4), h3, h.row h1', fun g hg => (h1'.lt g hg).1⟩
theorem Gs.list {s : Int} (h : Gs W wr B F bk (some s) c o) (x : Nat) (hx : x ≠ 0) (ho : o x = true) (xi : Int) (hxi : xi = (x : Int)) :
    Calls Try.prog 22 #[.pointer (some ⟨B, 0, none⟩), .int .i64 xi] wr fun e w' => ∃ v k, e = .returned (.tuple #[v, .int .i64 k]) ∧ Below wr.heap.size wr w' ∧ Rw W.heap.size w' F v (kidsA x s (c x)) ∧ ∀ g, v.ownBlock = some g → wr.heap.size ≤ g := by
  obtain ⟨l, hl, _⟩ := look_len (i := x) (by rw [h.kp.op]; exact ho)
  have hlf : lf bk x = l := by unfold lf; rw [look_nat, hl]; rfl
  subst hxi
  refine (list_all wr F B bk h.book x).mono ?_
  rintro e w' ⟨v, k, rfl, h1, h2⟩
  rw [hlf] at h1
  have hT : encHs (x : Int) (prs l 0) = encA (kidsA x s (c x)) := by
    rw [h.kp.prs hx hl, encA_hs]; simp only [kidsA, kids, List.map_map]; rfl
  have h1' : w'.ownsRow wr.heap.size 54 6 v (kidsA x s (c x)).length (encA (kidsA x s (c x))) := by
    rw [hT, h.kp.prs hx hl] at h1
    rw [kidsA_len]; simpa [kids] using h1
  exact ⟨v, k, rfl, h2, h.row h1', fun g hg => (h1'.lt g hg).1⟩
theorem Gs.purge {s : Int} (h : Gs W wr B F bk (some s) c o) (x : Nat) (hx : x ≠ 0) (hc : ∀ y, y ≠ x → c y = 0) :
    Calls Try.prog 48 #[.pointer (some ⟨B, 0, none⟩), .int .i64 1, .int .i64 5] wr fun e w' => ∃ v bk', e = .returned v ∧ Gs W w' B F bk' none (fun _ => 0) o ∧ Ext F wr F w' ∧ Rw W.heap.size w' F v (((0 : Int), (0, rootC s)) :: kidsA x s (c x)) ∧ ∀ g, v.ownBlock = some g → wr.heap.size ≤ g := by
  refine (purge_any wr F B bk h.book 1 5).mono ?_
  rintro e w' ⟨v, rfl, h1, h2, h3⟩
  rw [h.kp.pls hx hc] at h1 h2
  have hT : encT bk ((0, 0) :: (List.range (c x)).map (fun j => (x, j))) = encA (((0 : Int), (0, rootC s)) :: kidsA x s (c x)) := by
    rw [encT_of (R := fun p => if p.1 = 0 then rootC s else childC s)]
    · simp only [kidsA, List.map_cons, List.map_map]
      congr 2
      refine List.map_congr_left fun j _ => ?_
      simp [hx]
    · intro p hp
      rcases List.mem_cons.1 hp with rfl | hp
      · have h1 := h.kp.at_ 0 0
        simpa using h1
      · obtain ⟨j, hj, rfl⟩ := List.mem_map.1 hp
        have h1 := h.kp.at_ x j
        rw [if_neg hx, if_pos (List.mem_range.1 hj)] at h1
        simp only [hx, if_false]
        exact h1
  rw [hT] at h1
  have h1' : w'.ownsRow wr.heap.size 54 6 v (((0 : Int), (0, rootC s)) :: kidsA x s (c x)).length (encA (((0 : Int), (0, rootC s)) :: kidsA x s (c x))) := by
    simpa [kidsA_len] using h1
  exact ⟨v, _, rfl, h.ext h2 h3 (h.kp.purged hx hc), h3, h.row h1', fun g hg => (h1'.lt g hg).1⟩
theorem Gs.mint (h : Gs W wr B F bk none (fun _ => 0) o) (ho : o 0 = true) :
    Calls Try.prog 16 #[.pointer (some ⟨B, 0, none⟩), .int .i64 0, .int .i64 0, .agg #[.int .i64 1, .int .i64 5, .int .i64 8, .int .i64 15]] wr fun e w' => e = .returned (.tuple #[.int .i64 0, .int .i64 0]) ∧ ∃ F' bk', Gs W w' B F' bk' (some 8) (fun _ => 0) o ∧ Ext F wr F' w' := by
  refine (mint_any wr F B bk h.book 0 0 1 5 8 15).mono ?_
  rintro e w' ⟨v, c, bk', F', rfl, h1, h2, h3⟩
  obtain ⟨rfl, rfl, hk⟩ := h.kp.mint (fun i l hl => h.book.l48 hl) ho h3
  exact ⟨rfl, F', bk', h.ext h1 h2 hk, h2⟩
end
end Go.Proofs.Ytimfgjndgfjjgaa

namespace Go.Proofs.Ytimfgjndgfjjgaa
open Go.RowKit Go.Shelf

theorem Rw.shape {n0 : Nat} {w : World} {F : Nat → Prop} {v : Value} {l : List Hd} (h : Rw n0 w F v l) : ∃ a c, v = .slice a l.length c := own_shape h.row
set_option maxRecDepth 16000 in
set_option maxHeartbeats 8000000 in
theorem goneApart_any (W w : World) (F : Nat → Prop) (B : Nat) (bk : List (Option Lst)) (h : Gs W w B F bk (some 7) (cc 0 0 0) (oo true true)) (v : Value) (lg : List Hd) (hr : Rw W.heap.size w F v lg) (n : Nat) (hn : 1 ≤ n ∧ n ≤ 20) (hlg : lg.length = n + 1) :
    Calls Try.prog 24 #[.pointer (some ⟨B, 0, none⟩), v, .int .i64 (n : Int)] w fun e w' => e = .returned (.bool true) ∧ Below W.heap.size W w' := by
  have HG0 := hide h
  obtain ⟨a0, c0, hv0⟩ := hr.shape
  rw [hlg] at hv0
  subst hv0
  have HR0 := hide hr
  have HL0 := hide hlg
  clear h hr hlg
  go_enter Try.func24, Try.ntmps24
  go_wp2_with fail
  refine (HG0.out.mark HR0.out (by have := HL0.out; omega) 500 (by omega) 500 rfl).mono ?_
  rintro e w1 ⟨rfl, l1, hl1, hb1, hG1, hR1, -⟩
  have HG1 := hide hG1
  have HR1 := hide hR1
  have HL1 := hide (And.intro (hl1.trans HL0.out) hb1)
  clear hl1 hb1 hG1 hR1 HG0 HR0
  go_wp2_with fail
  refine (HG1.out.refilled 1 n (by decide) rfl (by simp [cc]; omega) 1 rfl).mono ?_
  rintro e w2 ⟨rfl, F2, bk2, hG2, hE2⟩
  rw [cc_1] at hG2
  have HG2 := hide hG2
  have HR2 := hide (HR1.out.ext hE2)
  clear hG2 hE2 HG1 HR1
  go_wp2_with fail
  refine (HG2.out.revoke 1 (by decide) (fun y hy => by unfold cc; simp [hy])).mono ?_
  rintro e w3 ⟨va, bk3, rfl, hG3, hE3, hA3, -⟩
  rw [cc_zero] at hG3
  have hcn : cc (0 + n) 0 0 1 = n := by simp [cc]
  rw [hcn] at hA3
  obtain ⟨a3, c3, hv3⟩ := hA3.shape
  rw [kidsA_len] at hv3
  subst hv3
  have HG3 := hide hG3
  have HR3 := hide (HR2.out.ext hE3)
  have HA3 := hide hA3
  clear hG3 hE3 hA3 HG2 HR2 hcn
  have HBr := hide (bears_any w3 _ l1 500 HR3.out.held (by have := HL1.out.1; omega) (by have := HL1.out.1; omega) (by omega) HL1.out.2)
  go_wp2_with fail
  refine HBr.out.mono ?_
  rintro e w3' ⟨rfl, rfl⟩
  clear HBr
  go_wp2_with fail
  refine (HG3.out.refilled 1 n (by decide) rfl (by simp [cc]; omega) 1 rfl).mono ?_
  rintro e w4 ⟨rfl, F4, bk4, hG4, hE4⟩
  rw [cc_1] at hG4
  have HG4 := hide hG4
  have HA4 := hide (HA3.out.ext hE4)
  clear hG4 hE4 HG3 HA3 HR3
  go_wp2_with fail
  refine (HG4.out.refilled 2 n (by decide) rfl (by simp [cc]; omega) 2 rfl).mono ?_
  rintro e w5 ⟨rfl, F5, bk5, hG5, hE5⟩
  rw [cc_2] at hG5
  have HG5 := hide hG5
  have HA5 := hide (HA4.out.ext hE5)
  clear hG5 hE5 HG4 HA4
  go_wp2_with fail
  refine (HG5.out.mark HA5.out (by rw [kidsA_len]; omega) 600 (by omega) 600 rfl).mono ?_
  rintro e w6 ⟨rfl, l6, hl6, hb6, hG6, hR6, -⟩
  rw [kidsA_len] at hl6
  have HG6 := hide hG6
  have HA6 := hide hR6
  have HL6 := hide (And.intro hl6 hb6)
  clear hl6 hb6 hG6 hR6 HG5 HA5
  go_wp2_with fail
  refine (HG6.out.shut 1 (by decide) rfl 1 rfl).mono ?_
  rintro e w7 ⟨vc, bk7, rfl, hG7, hE7, hC7, hlo7⟩
  rw [cc_01, oo_1] at hG7
  have hcn : cc (0 + n) (0 + n) 0 1 = n := by simp [cc]
  rw [hcn] at hC7
  obtain ⟨a7, c7, hv7⟩ := hC7.shape
  rw [kidsA_len] at hv7
  subst hv7
  have HNe : Hid (∀ g, (Value.slice a3 n c3).ownBlock = some g → (Value.slice a7 n c7).ownBlock ≠ some g) := hide fun g hg he => by
    have := hlo7 g he
    have := (HA6.out.row.lt g hg).2
    omega
  have HG7 := hide hG7
  have HA7 := hide (HA6.out.ext hE7)
  have HC7 := hide hC7
  clear hG7 hE7 hC7 hlo7 HG6 HA6 hcn
  go_wp2_with fail
  refine (HG7.out.mark HC7.out (by rw [kidsA_len]; omega) 700 (by omega) 700 rfl).mono ?_
  rintro e w8 ⟨rfl, l8, hl8, hb8, hG8, hR8, hgr8⟩
  rw [kidsA_len] at hl8
  have HG8 := hide hG8
  have HC8 := hide hR8
  have HL8 := hide (And.intro hl8 hb8)
  have HA8 := hide (HA7.out.kept hgr8 HNe.out)
  clear hl8 hb8 hG8 hR8 HG7 HC7 HA7 HNe hgr8
  go_wp2_with fail
  refine (HG8.out.shut 2 (by decide) rfl 2 rfl).mono ?_
  rintro e w9 ⟨vd, bk9, rfl, hG9, hE9, hD9, -⟩
  rw [cc_02, oo_2] at hG9
  have hcn : cc 0 (0 + n) 0 2 = n := by simp [cc]
  rw [hcn] at hD9
  obtain ⟨a9, c9, hv9⟩ := hD9.shape
  rw [kidsA_len] at hv9
  subst hv9
  have HG9 := hide hG9
  have HA9 := hide (HA8.out.ext hE9)
  have HC9 := hide (HC8.out.ext hE9)
  clear hG9 hE9 hD9 HG8 HA8 HC8 hcn
  have HBr := hide (bears_any w9 _ l6 600 HA9.out.held (by have := HL6.out.1; omega) (by have := HL6.out.1; omega) (by omega) HL6.out.2)
  have HBr2 := hide (bears_any w9 _ l8 700 HC9.out.held (by have := HL8.out.1; omega) (by have := HL8.out.1; omega) (by omega) HL8.out.2)
  go_wp2_with fail
  refine HBr.out.mono ?_
  rintro e w9' ⟨rfl, rfl⟩
  clear HBr
  go_wp2_with fail
  refine HBr2.out.mono ?_
  rintro e w9' ⟨rfl, rfl⟩
  clear HBr2 HA9 HC9
  go_wp2_with fail
  refine (HG9.out.refilled 3 n (by decide) rfl (by simp [cc]; omega) 3 rfl).mono ?_
  rintro e wa ⟨rfl, Fa, bka, hGa, hEa⟩
  rw [cc_3] at hGa
  have HGa := hide hGa
  clear hGa hEa HG9
  go_wp2_with fail
  refine (HGa.out.purge 3 (by decide) (fun y hy => by unfold cc; simp [hy])).mono ?_
  rintro e wb ⟨vg, bkb, rfl, hGb, hEb, hRb, -⟩
  have hcn : cc 0 0 (0 + n) 3 = n := by simp [cc]
  rw [hcn] at hRb
  obtain ⟨ab, cb, hvb⟩ := hRb.shape
  rw [List.length_cons, kidsA_len] at hvb
  subst hvb
  have HGb := hide hGb
  have HRb := hide hRb
  clear hGb hEb hRb HGa hcn
  go_wp2_with fail
  refine (HGb.out.mark HRb.out (by rw [List.length_cons, kidsA_len]; omega) 800 (by omega) 800 rfl).mono ?_
  rintro e wc ⟨rfl, lc, hlc, hbc, hGc, hRc, -⟩
  rw [List.length_cons, kidsA_len] at hlc
  have HGc := hide hGc
  have HRc := hide hRc
  have HLc := hide (And.intro hlc hbc)
  clear hlc hbc hGc hRc HGb HRb
  go_wp2_with fail
  refine (HGc.out.mint rfl).mono ?_
  rintro e wd ⟨rfl, Fd, bkd, hGd, hEd⟩
  rw [cc_zero] at hGd
  have HGd := hide hGd
  have HRd := hide (HRc.out.ext hEd)
  clear hGd hEd HGc HRc
  go_wp2_with fail
  refine (HGd.out.refilled 3 n (by decide) rfl (by simp [cc]; omega) 3 rfl).mono ?_
  rintro e we ⟨rfl, Fe, bke, hGe, hEe⟩
  rw [cc_3] at hGe
  have HGe := hide hGe
  have HRe := hide (HRd.out.ext hEe)
  clear hGe hEe HGd HRd
  go_wp2_with fail
  refine (HGe.out.purge 3 (by decide) (fun y hy => by unfold cc; simp [hy])).mono ?_
  rintro e wf ⟨vh, bkf, rfl, hGf, hEf, hHf, -⟩
  have hcn : cc 0 0 (0 + n) 3 = n := by simp [cc]
  rw [hcn] at hHf
  have hh := hHf.held
  obtain ⟨af, cf, hvf, hcell⟩ := hh
  rw [List.length_cons, kidsA_len] at hvf
  subst hvf
  obtain ⟨gf, rfl, _, _, q1, _⟩ := hcell 0 (by simp)
  have q1' : wf.cell? ⟨gf, 1, none⟩ = some (.int .i64 0) := by simpa using q1
  have HBel := hide hGf.bel
  have HRf := hide (HRe.out.ext hEf)
  have HBr := hide (bears_any wf _ lc 800 HRf.out.held (by have := HLc.out.1; omega) (by have := HLc.out.1; omega) (by omega) HLc.out.2)
  clear hGf hEf hHf hcell q1 HGe HRe HRf hcn
  go_wp2_with fail
  refine HBr.out.mono ?_
  rintro e wf' ⟨rfl, rfl⟩
  clear HBr
  go_wp2
  go_ret
  exact ⟨rfl, HBel.out⟩
end Go.Proofs.Ytimfgjndgfjjgaa

namespace Go.Proofs.Ytimfgjndgfjjgaa
open Go.RowKit Go.Shelf

theorem encA_set5 {l : List Hd} {k : Nat} (hk : k < l.length) (z : Int) : (encA l).set (k * 6 + 5) (.int .i64 z) = encA (l.set k (l[k].1, (l[k].2.1, { l[k].2.2 with r := z }))) := by
  apply List.ext_getElem?
  intro j
  have hlen := encA_len l
  have hlen2 := encA_len (l.set k (l[k].1, (l[k].2.1, { l[k].2.2 with r := z })))
  rw [List.length_set] at hlen2
  by_cases hj : j < l.length * 6
  · obtain ⟨q, i, hi, rfl⟩ : ∃ q i, i < 6 ∧ j = q * 6 + i := ⟨j / 6, j % 6, Nat.mod_lt _ (by omega), by omega⟩
    have hq : q < l.length := by omega
    rw [encA_at (l := l.set k (l[k].1, (l[k].2.1, { l[k].2.2 with r := z }))) (by rw [List.length_set]; exact hq) i hi, List.getElem?_set]
    by_cases e : k = q
    · subst e
      rw [List.getElem_set_self]
      by_cases e2 : i = 5
      · subst e2; rw [if_pos rfl, if_pos (by omega)]; rfl
      · rw [if_neg (by omega), encA_at hk i hi]
        have : i = 0 ∨ i = 1 ∨ i = 2 ∨ i = 3 ∨ i = 4 := by omega
        rcases this with rfl | rfl | rfl | rfl | rfl <;> rfl
    · rw [if_neg (by omega), encA_at hq i hi, List.getElem_set_ne e]
  · rw [List.getElem?_eq_none (by rw [List.length_set]; omega), List.getElem?_eq_none (by omega)]
/-- a slice that is read alone, apart from the book -/
structure Hf (wr : World) (F : Nat → Prop) (v : Value) (l : List Hd) : Prop where
  held : HeldAt wr v l
  nf : ∀ g, v.ownBlock = some g → ¬ F g
theorem Hf.ext {w w' : World} {F F' : Nat → Prop} {v : Value} {l : List Hd} (h : Hf w F v l) (hE : Ext F w F' w') (h0 : 0 < l.length) : Hf w' F' v l := by
  obtain ⟨a, c, rfl, hc⟩ := h.held
  refine ⟨⟨a, c, rfl, fun k hk => ?_⟩, fun g hg hf => ?_⟩
  · obtain ⟨g, rfl, h2, h3, h4, h5, h6, h7, h8⟩ := hc k hk
    have hq : ∀ j, w'.cell? ⟨g, j, none⟩ = w.cell? ⟨g, j, none⟩ := fun j => by
      unfold World.cell?
      rw [hE.mod.block g h2 (h.nf g rfl)]
    exact ⟨g, rfl, Nat.lt_of_lt_of_le h2 hE.mod.size, by rw [hq]; exact h3, by rw [hq]; exact h4, by rw [hq]; exact h5, by rw [hq]; exact h6, by rw [hq]; exact h7, by rw [hq]; exact h8⟩
  · obtain ⟨g', rfl, h2, _⟩ := hc 0 h0
    cases hg
    rcases hE.new _ hf with h1 | h1
    · exact h.nf _ rfl h1
    · have h1' : w.heap.size ≤ g' := h1
      omega
theorem Rw.hf {n0 : Nat} {w : World} {F : Nat → Prop} {v : Value} {l : List Hd} (h : Rw n0 w F v l) : Hf w F v l := ⟨h.held, h.nf⟩
theorem encA_snoc (l : List Hd) (y : Hd) : encA (l ++ [y]) = encA l ++ (cel y).toList := by simp [encA, encH, cel]
theorem encA_one (l : List Hd) : ∀ u ∈ encA l, u.oneCell' = true := by
  intro u hu
  obtain ⟨y, _, hy⟩ := List.mem_flatMap.1 hu
  simp [encH] at hy
  rcases hy with rfl | rfl | rfl | rfl | rfl | rfl <;> rfl
set_option maxHeartbeats 1600000 in
/-- append of one to a row of the call's own: what lay in the old slice still lies there -/
theorem append_keep {ops : Array Oper} {rest : List Oper} {o : Oper} {a : Act} {Q : Exit → Act → World → Prop} (w : World) (hgd : o.guard = none) (s x : Operand)
    (hop : o.op = Op.call { callee := Callee.builtin Builtin.append, args := #[s, x], argTypes := #[51, 51] }) (base b n cap : Nat) (l : List Hd) (hs : a.eval s = .slice (some ⟨b, 0, none⟩) n cap) (hn : l.length = n)
    (hrow : w.ownsRow base 54 6 (.slice (some ⟨b, 0, none⟩) n cap) n (encA l)) (y : Hd) (N c : Nat) (hx : a.eval x = .slice (some ⟨N, 0, none⟩) 1 c) (hN : w.heap[N]? = some (.cells (cel y) 54 (0, 0))) (hle : n ≤ 768)
    (hK : ∀ gg cap' w', w'.ownsRow base 54 6 (.slice (some ⟨gg, 0, none⟩) (n + 1) cap') (n + 1) (encA (l ++ [y])) → (gg = b ∨ w.heap.size ≤ gg) → HeldAt w' (.slice (some ⟨b, 0, none⟩) n cap) l → w.grownBy w' (some b) → wpList Try.prog ops Q rest (a.put o.dst (.slice (some ⟨gg, 0, none⟩) (n + 1) cap')) w') :
    wpList Try.prog ops Q (o :: rest) a w := by
  obtain ⟨i54, hi, hz, hsz, hby⟩ := info54'
  have hrow' := hrow
  obtain ⟨q1, ⟨h0, h00⟩ | ⟨g1, cap1, cur, hv1, hgb, hg1, hnc, hcm, hcs, htk⟩⟩ := hrow
  · cases h0
  cases hv1
  have hlt : b < w.heap.size := (Array.getElem?_eq_some_iff.1 hg1).1
  have hcell : ∀ j u, (encA l)[j]? = some u → w.cell? ⟨b, 0 + j, none⟩ = some u := by
    intro j u hu
    have hj : j < n * 6 := by have := (List.getElem?_eq_some_iff.1 hu).1; rw [encA_len, hn] at this; exact this
    rw [Nat.zero_add, hrow'.cellAt j hj]; exact hu
  have hheld : HeldAt w (.slice (some ⟨b, 0, none⟩) n cap) l := by subst hn; exact HeldAt.of_row hrow'
  refine wpList_append_arg w hgd s x 51 hop 54 i54 (.agg #[.int .i64 0, .int .i64 0, .int .i64 0, .int .i64 0, .int .i64 0, .int .i64 0]) 6 48 Try.underlying51 hi hz hsz hby rfl (by decide) b 0 n cap (encA l) hs (by rw [encA_len, hn]) hcell ⟨N, 0, none⟩ 1 c (cel y).toList hx rfl (fun j u hu => by rw [add0, cell_of_row _ _ _ _ _ _ hN]; simpa using hu) (fun u hu => by simp [cel] at hu; rcases hu with rfl | rfl | rfl | rfl | rfl | rfl <;> rfl) (fun hr j hj => ?_) (by unfold maxLen; omega) (by omega) (fun hr => ?_) (fun hr v' w' ho hg => ?_)
  · refine ⟨?_, frozen_of_row _ _ _ _ _ hg1⟩
    rw [cell_of_row _ _ _ _ _ _ hg1]
    have : j < 6 := hj
    rw [Array.getElem?_eq_getElem (by rw [hcs]; omega)]; rfl
  · obtain ⟨cs', h1, h2, h3⟩ := heap_setCells b 54 (cel y).toList (0 + n * 6) w cur hg1
    have hcl : (cel y).toList.length = 6 := rfl
    have hold : ∀ j, j < n * 6 → cs'[j]? = cur[j]? := fun j hj => by rw [h3 j (by rw [hcs]; omega), if_neg (by omega)]
    obtain ⟨r1, r2, r3, r4⟩ := setCells_rest b (cel y).toList (0 + n * 6) w
    have hgr : w.grownBy (w.setCells b (0 + n * 6) (cel y).toList) (some b) := ⟨r1, r2, r3, by rw [r4]; exact Nat.le_refl _, fun k _ hk => heap_setCells_other b k (fun e => hk (by rw [e])) _ _ _⟩
    refine hK b cap _ ⟨by rw [encA_len, List.length_append, hn]; rfl, .inr ⟨b, cap, cs', rfl, hgb, h1, hr, hcm, by rw [h2, hcs], ?_⟩⟩ (.inl rfl) ?_ hgr
    · apply List.ext_getElem?
      intro j
      rw [encA_snoc]
      by_cases hj : j < (n + 1) * 6
      · rw [List.getElem?_take_of_lt hj, Array.getElem?_toList]
        by_cases hj2 : j < n * 6
        · rw [hold j hj2, List.getElem?_append_left (by rw [encA_len, hn]; exact hj2)]
          have := congrArg (fun z => z[j]?) htk
          simp only [List.getElem?_take_of_lt hj2, Array.getElem?_toList] at this
          exact this
        · rw [h3 j (by rw [hcs]; omega), if_pos (by omega), List.getElem?_append_right (by rw [encA_len, hn]; omega), encA_len, hn, show j - (0 + n * 6) = j - n * 6 by omega]
      · rw [List.getElem?_eq_none (by rw [List.length_take]; omega), List.getElem?_eq_none (by rw [List.length_append, encA_len, hn, hcl]; omega)]
    · obtain ⟨a', c', hv, hc⟩ := hheld
      refine ⟨some ⟨b, 0, none⟩, cap, by rw [hn], fun k hk => ?_⟩
      obtain ⟨g, e, _, k1, k2, k3, k4, k5, k6⟩ := hc k hk
      rw [hn] at hv hk
      cases hv
      cases e
      have hq : ∀ j, j < n * 6 → (w.setCells b (0 + n * 6) (cel y).toList).cell? ⟨b, j, none⟩ = w.cell? ⟨b, j, none⟩ := fun j hj => by
        rw [cell_of_row _ _ _ _ _ _ h1, cell_of_row _ _ _ _ _ _ hg1, hold j hj]
      exact ⟨b, rfl, by rw [r4]; exact hlt, by rw [hq _ (by omega)]; exact k1, by rw [hq _ (by omega)]; exact k2, by rw [hq _ (by omega)]; exact k3, by rw [hq _ (by omega)]; exact k4, by rw [hq _ (by omega)]; exact k5, by rw [hq _ (by omega)]; exact k6⟩
  · obtain ⟨e1, ⟨e2, e3⟩ | ⟨gg, cap', cur', rfl, hgb', hrest⟩⟩ := ho
    · omega
    · have hgr : w.grownBy w' (some b) := ⟨hg.os, hg.tape, hg.output, hg.size, fun k hk _ => hg.block k hk (by simp)⟩
      refine hK gg cap' w' ⟨by rw [encA_len, List.length_append, hn]; rfl, .inr ⟨gg, cap', cur', rfl, by omega, ?_⟩⟩ (.inr hgb') ?_ hgr
      · rw [encA_snoc]; exact hrest
      · refine hheld.below ⟨hg.os, hg.tape, hg.output, hg.size, fun k hk => hg.block k hk (by simp)⟩
section
variable {W wr w' : World} {B : Nat} {F F' : Nat → Prop} {bk bk' : List (Option Lst)} {c c' : Nat → Nat} {o o' : Nat → Bool}
theorem Gs.derive {s : Int} (h : Gs W wr B F bk (some s) c o) (x : Nat) (hx : x ≠ 0) (ho : o x = true) (hc : c x < 48) (xi : Int) (hxi : xi = (x : Int)) :
    Calls Try.prog 10 #[.pointer (some ⟨B, 0, none⟩), .int .i64 0, .int .i64 0, .int .i64 xi, .int .i64 (-1), .int .i64 5] wr fun e w' => ∃ v, e = .returned (.tuple #[.int .i64 v, .int .i64 0]) ∧ ∃ F' bk', Gs W w' B F' bk' (some s) (fun y => if y = x then c x + 1 else c y) o ∧ Ext F wr F' w' := by
  subst hxi
  refine (derive_any wr F B bk h.book 0 0 x (-1) 5).mono ?_
  rintro e w' ⟨v, k, bk', F', rfl, h1, h2, h3⟩
  obtain ⟨_, rfl, hk⟩ := h.kp.derive (fun i l hl => h.book.l48 hl) hx ho hc h3
  exact ⟨v, rfl, F', bk', h.ext h1 h2 hk, h2⟩
theorem Gs.up {s : Int} (h : Gs W wr B F bk (some s) c o) (hc : 0 < c 1) (J : Nat) (h0 : wr.cell? ⟨J, 0, none⟩ = some (.int .i64 5)) (h1 : wr.cell? ⟨J, 1, none⟩ = some (.int .i64 0)) (h2 : wr.cell? ⟨J, 2, none⟩ = some (.int .i64 0)) (h3 : wr.cell? ⟨J, 3, none⟩ = some (.int .i64 99)) :
    Calls Try.prog 13 #[.pointer (some ⟨B, 0, none⟩), .int .i64 1, .int .i64 0, .slice (some ⟨J, 0, none⟩) 4 4] wr fun e w' => e = .returned (.tuple #[.agg #[.int .i64 0, .int .i64 0], .int .i64 0]) ∧ Below wr.heap.size wr w' := by
  have hat : atB bk 1 0 = some (childC s) := by have := h.kp.at_ 1 0; simpa [hc] using this
  have hr0 : atB bk 0 0 = some (rootC s) := by have := h.kp.at_ 0 0; simpa using this
  let Z : Nat → Int := fun k => if k = 0 then 5 else if k = 3 then 99 else 0
  refine (upSome_any wr F B bk h.book _ h.kp.rk 1 0 _ hat (some ⟨J, 0, none⟩) 4 4 Z (by unfold maxLen; omega) ?_).mono ?_
  · intro k hk
    refine ⟨_, rfl, ?_⟩
    rw [add0]
    rcases (by omega : k = 0 ∨ k = 1 ∨ k = 2 ∨ k = 3) with rfl | rfl | rfl | rfl
    · exact h0
    · exact h1
    · exact h2
    · exact h3
  · rintro x w' ⟨p, q, rfl, hu, hb⟩
    have hin : insF Z 4 0 = true := by
      unfold insF
      rw [show ((0 : Int).toNat) = 0 from rfl, insB_get Z 4 0 (by omega)]
      have : ((List.range 4).any (fun j => decide ((if j = 0 then (5 : Int) else if j = 3 then 99 else 0) = ((0 : Nat) : Int)))) = true := by decide
      exact this
    have hu' : Ups bk (insF Z 4) 0 0 p q := hu
    have hk : ∀ {e s p q : Int}, Ups bk (insF Z 4) e s p q → e = 0 → s = 0 → p = 0 ∧ q = 0 := by
      intro e s p q hu e0 s0
      cases hu using Ups.ind with
      | none => omega
      | here => exact ⟨e0, s0⟩
      | up _ _ _ _ _ _ hf => rw [e0, hin] at hf; cases hf
    obtain ⟨rfl, rfl⟩ := hk hu' rfl rfl
    exact ⟨rfl, hb⟩
end
end Go.Proofs.Ytimfgjndgfjjgaa
