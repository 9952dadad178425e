import Derived.Test.YtimfgjndgfjjgaaRA
namespace Go.Proofs.Ytimfgjndgfjjgaa
open Go.RowKit Go.Shelf

def heldOf (bk : List (Option Lst)) (ps : List (Nat × Nat)) : List Hd := ps.map (fun p => ((p.1 : Int), (p.2, (atB bk (p.1 : Int) (p.2 : Int)).getD Rc.zero)))
theorem encT_held {bk : List (Option Lst)} {ps : List (Nat × Nat)} (h : ∀ p ∈ ps, ∃ r, atB bk (p.1 : Int) (p.2 : Int) = some r) : encT bk ps = encA (heldOf bk ps) :=
  encT_of (R := fun p => (atB bk (p.1 : Int) (p.2 : Int)).getD Rc.zero) (fun p hp => by obtain ⟨r, hr⟩ := h p hp; rw [hr]; rfl)
theorem heldOf_not {bk : List (Option Lst)} {ps : List (Nat × Nat)} {q : Nat × Nat} : (∀ y ∈ heldOf bk ps, isP y.1 (y.2.1 : Int) q = false) ↔ q ∉ ps := by
  constructor
  · intro h hq
    have := h _ (List.mem_map.2 ⟨q, hq, rfl⟩)
    simp [isP] at this
  · intro h y hy
    obtain ⟨p, hp, rfl⟩ := List.mem_map.1 hy
    cases hq : isP (p.1 : Int) (p.2 : Int) q
    · rfl
    · have := isP_iff.1 hq
      exact (h (by rw [show q = p from Prod.ext (by omega) (by omega)]; exact hp)).elim
theorem kept_not {i : Nat} {xs : List (Nat × Rc)} {q : Nat × Nat} : (∀ y ∈ xs.map (fun x => ((i : Int), x)), isP y.1 (y.2.1 : Int) q = false) ↔ q ∉ plc i xs := by
  constructor
  · intro h hq
    obtain ⟨x, hx, rfl⟩ := List.mem_map.1 hq
    have := h _ (List.mem_map.2 ⟨x, hx, rfl⟩)
    simp [isP] at this
  · intro h y hy
    obtain ⟨x, hx, rfl⟩ := List.mem_map.1 hy
    cases hq : isP (i : Int) (x.1 : Int) q
    · rfl
    · have := isP_iff.1 hq
      exact (h (List.mem_map.2 ⟨x, hx, Prod.ext (by show i = q.1; omega) (by show x.1 = q.2; omega)⟩)).elim
/-- the watched one, or a marked one -/
def Mk (M : List (Nat × Nat)) (e s : Int) : Prop := (e = 1 ∧ s = 40) ∨ ∃ q ∈ M, isP e s q = true
/-- what follow does -/
inductive Fol (o : Opr) (bk : List (Option Lst)) (M : List (Nat × Nat)) : List (Option Lst) → List (Nat × Nat) → Prop
  | derive0 {v c : Int} {bk' : List (Option Lst)} : o.q = 4 → DeriveR bk o.e o.s o.t o.a o.r v c bk' → (c = 0 → ¬ Mk M o.e o.s) → Fol o bk M bk' M
  | derive {v : Int} {i k : Nat} {bk' : List (Option Lst)} : o.q = 4 → DeriveR bk o.e o.s o.t o.a o.r v 0 bk' → o.t = i → v = k → Mk M o.e o.s → Fol o bk M bk' (M ++ [(i, k)])
  | drop0 : o.q = 5 → atB bk o.e o.s = none → Fol o bk M bk M
  | drop {i j : Nat} {r : Rc} {bk' : List (Option Lst)} : o.q = 5 → o.e = i → o.s = j → atB bk (i : Int) (j : Int) = some r → DropR bk i j r bk' → Fol o bk M bk' (cutM M i j)
  | revoke0 : o.q = 6 → atB bk o.e o.s = none → Fol o bk M bk M
  | revoke {i j : Nat} {r : Rc} {n : Nat} {ps : List (Nat × Nat)} : o.q = 6 → o.e = i → o.s = j → atB bk (i : Int) (j : Int) = some r → Dep n bk (i, j) → List.Perm ps (bel n bk (i, j)) → Fol o bk M (rmv bk ps) (cutAll M (heldOf bk ps))
  | shut0 : o.q = 2 → look bk o.e = none → Fol o bk M bk M
  | shut {i : Nat} {l : Lst} {bk' : List (Option Lst)} : o.q = 2 → o.e = i → bk[i]? = some (some l) → Drops (plc i (prs l 0)) bk bk' → Fol o bk M (bk'.set i none) (cutAll M ((prs l 0).map (fun x => ((i : Int), x))))
  | other {bk' : List (Option Lst)} : o.q ≠ 2 → o.q ≠ 4 → o.q ≠ 5 → o.q ≠ 6 → Step o bk bk' → Fol o bk M bk' M
/-- the marks are just those that came from the watched one -/
structure MInv (bk : List (Option Lst)) (M : List (Nat × Nat)) : Prop where
  snd : ∃ f, Snd bk f
  nd : M.Nodup
  mem : ∀ q, q ∈ M ↔ Desc bk (1, 40) q
theorem lcode_ne {bk : List (Option Lst)} {e s : Int} (h : atB bk e s = none) : lcode bk e s ≠ 0 := by
  unfold atB at h
  cases hl : look bk e with
  | none => rw [(lcode_closed (s := s) hl).1]; decide
  | some l =>
    rw [hl] at h
    rw [(lcode_free hl h).1]; decide
theorem derive_lay {bk bk' : List (Option Lst)} {e s t a rt v : Int} (h48 : ∀ (i : Nat) (l : Lst), bk[i]? = some (some l) → l.length = 48) (hm : DeriveR bk e s t a rt v 0 bk') :
    ∃ (i k : Nat) (p : Rc), t = i ∧ v = k ∧ atB bk e s = some p ∧ okR rt p = true ∧ 0 ≤ rt ∧ rt ≤ 15 ∧ Shape bk bk' ∧ atB bk (i : Int) (k : Int) = none ∧ ∀ x y : Nat, atB bk' (x : Int) (y : Int) = if x = i ∧ y = k then some ⟨p.k, p.o, p.s, rt, e, s⟩ else atB bk (x : Int) (y : Int) := by
  rcases hm with ⟨_, _, h, _⟩ | ⟨_, h1, _, h, _⟩ | ⟨_, _, _, _, h, _⟩ | ⟨_, _, _, _, _, h, _⟩ | ⟨i, l, l', r, hi, hl, hr, hok, _, hrt, hy, rfl⟩
  · omega
  · exact (lcode_ne h1 h.symm).elim
  · omega
  · omega
  · rcases lay_view hl (h48 i l hl) hy with ⟨k, _, hv, _, hf, _, _, hsh, hvw⟩ | ⟨_, h, _⟩
    · exact ⟨i, k, r, hi, hv, hr, hok, hrt.1, hrt.2, hsh, hf, hvw⟩
    · exact (h rfl).elim
theorem derive_no {bk bk' : List (Option Lst)} {e s t a rt v c : Int} (h48 : ∀ (i : Nat) (l : Lst), bk[i]? = some (some l) → l.length = 48) (hm : DeriveR bk e s t a rt v c bk') (hc : c ≠ 0) : bk' = bk := by
  rcases hm with ⟨_, _, _, rfl⟩ | ⟨_, _, _, _, rfl⟩ | ⟨_, _, _, _, _, rfl⟩ | ⟨_, _, _, _, _, _, rfl⟩ | ⟨i, l, l', r, hi, hl, hr, hok, _, hrt, hy, rfl⟩
  · rfl
  · rfl
  · rfl
  · rfl
  · rcases lay_view hl (h48 i l hl) hy with ⟨k, _, _, h, _⟩ | ⟨_, _, e, _⟩
    · exact (hc h).elim
    · exact e
theorem MInv.same {bk bk' : List (Option Lst)} {M : List (Nat × Nat)} (h : MInv bk M) (hs : ∃ f, Snd bk' f) (hd : ∀ q, Desc bk' (1, 40) q ↔ Desc bk (1, 40) q) : MInv bk' M := ⟨hs, h.nd, fun q => (h.mem q).trans (hd q).symm⟩
theorem Fol.inv {o : Opr} {bk bk' : List (Option Lst)} {M M' : List (Nat × Nat)} (h : MInv bk M) (h48 : ∀ (i : Nat) (l : Lst), bk[i]? = some (some l) → l.length = 48) (hop : (look bk 1).isSome = true) (hF : Fol o bk M bk' M') (x7 : o.q ≠ 7) (x5 : ¬ (o.q = 5 ∧ o.e = 1 ∧ o.s = 40)) (x2 : ¬ (o.q = 2 ∧ o.e = 1)) :
    (look bk' 1).isSome = true ∧ ((∃ r, atB bk' 1 40 = some r) → MInv bk' M') ∧ M'.length ≤ M.length + 1 := by
  obtain ⟨f, hf⟩ := h.snd
  cases hF with
  | @derive0 v c bk' hq hD hM =>
    by_cases hc : c = 0
    · subst hc
      obtain ⟨i, k, p, e1, e2, hp, hok, r0, r1, hsh, hfr, hv⟩ := derive_lay h48 hD
      refine ⟨(hsh 1).trans hop, fun _ => h.same ((Step.derive hq hD).snd hf h48) fun q => ?_, by omega⟩
      rw [desc_lay hf hfr hv (.inr ⟨p, hp⟩)]
      constructor
      · rintro (h1 | ⟨_, h1 | ⟨q', h1, h2, h3⟩⟩)
        · exact h1
        · exact (hM rfl (.inl h1)).elim
        · exact (hM rfl (.inr ⟨q', (h.mem q').2 h1, isP_iff.2 ⟨h2.symm, h3.symm⟩⟩)).elim
      · exact .inl
    · obtain rfl := derive_no h48 hD hc
      exact ⟨hop, fun _ => h, by omega⟩
  | @derive v i k bk' hq hD ht hk hM =>
    obtain ⟨i', k', p, e1, e2, hp, hok, r0, r1, hsh, hfr, hv⟩ := derive_lay h48 hD
    obtain rfl : i = i' := by omega
    obtain rfl : k = k' := by omega
    have hd := desc_lay hf hfr hv (.inr ⟨p, hp⟩) (1, 40)
    have hnew : (i, k) ∉ M := fun hin => by
      obtain ⟨r, hr⟩ := ((h.mem _).1 hin).at'
      rw [hfr] at hr; cases hr
    refine ⟨(hsh 1).trans hop, fun _ => ⟨(Step.derive hq hD).snd hf h48, ?_, fun q => ?_⟩, by simp⟩
    · rw [List.nodup_append]
      exact ⟨h.nd, by simp, fun a ha b hb e => by simp at hb; subst hb; subst e; exact hnew ha⟩
    · rw [hd, List.mem_append, h.mem]
      constructor
      · rintro (h1 | h1)
        · exact .inl h1
        · simp at h1
          refine .inr ⟨h1, ?_⟩
          rcases hM with hM | ⟨q', h2, h3⟩
          · exact .inl hM
          · have := isP_iff.1 h3
            exact .inr ⟨q', (h.mem q').1 h2, this.1.symm, this.2.symm⟩
      · rintro (h1 | ⟨h1, _⟩)
        · exact .inl h1
        · exact .inr (by simp [h1])
  | drop0 => exact ⟨hop, fun _ => h, by omega⟩
  | @drop i j r bk' hq he hs hr hD =>
    have hne : ((1, 40) : Nat × Nat) ≠ (i, j) := fun e => by
      cases e
      exact x5 ⟨hq, he, hs⟩
    refine ⟨(hD.1 1).trans hop, fun _ => ⟨⟨f, hf.drop hr hD⟩, cutM_nodup h.nd _ _, fun q => ?_⟩, by have := cutM_len M i j; omega⟩
    rw [cutM_mem h.nd, desc_drop hf hr hD hne, h.mem]
    constructor
    · rintro ⟨h1, h2⟩
      refine ⟨h1, fun e => ?_⟩
      subst e
      simp [isP] at h2
    · rintro ⟨h1, h2⟩
      refine ⟨h1, ?_⟩
      cases hp : isP (i : Int) (j : Int) q
      · rfl
      · have := isP_iff.1 hp
        exact (h2 (Prod.ext (by omega) (by omega))).elim
  | revoke0 => exact ⟨hop, fun _ => h, by omega⟩
  | @revoke i j r n ps hq he hs hr hD hp =>
    have hnd := hp.nodup_iff.2 (bel_nodup hf.rk n (i, j))
    have hex : ∀ p ∈ ps, ∃ r, atB bk (p.1 : Int) (p.2 : Int) = some r := fun p hq => bel_mem n (hp.mem_iff.1 hq)
    have hcl : ∀ p ∈ ps, ∀ (a b : Nat) (r : Rc), atB bk (a : Int) (b : Int) = some r → r.e = (p.1 : Int) → r.t = (p.2 : Int) → (a, b) ∈ ps := fun p hq a b r hr e1 e2 =>
      hp.mem_iff.2 (bel_child n hD (hp.mem_iff.1 hq) (mem_pls.2 ⟨r, hr, by simp [chP, e1, e2]⟩))
    obtain ⟨c1, c2, c3⟩ := cutAll_all (heldOf bk ps) h.nd
    refine ⟨((rmv_at ps bk hnd hex).1 1).trans hop, fun _ => ⟨⟨f, hf.revoke hD hp⟩, c1, fun q => ?_⟩, by omega⟩
    rw [c3, heldOf_not, h.mem]
    exact ⟨fun hh => desc_rmv' hnd hex hcl hh.1 hh.2, fun hh => desc_rmv hnd hex _ _ hh⟩
  | shut0 => exact ⟨hop, fun _ => h, by omega⟩
  | @shut i l bk' hq he hl hD =>
    have hi : i ≠ 1 := fun e => x2 ⟨hq, by rw [he, e]; rfl⟩
    obtain ⟨c1, c2, c3⟩ := cutAll_all ((prs l 0).map (fun x => ((i : Int), x))) h.nd
    have hnin : ((1, 40) : Nat × Nat) ∉ plc i (prs l 0) := fun hin => by
      obtain ⟨x, _, e⟩ := List.mem_map.1 hin
      exact hi (congrArg Prod.fst e)
    refine ⟨?_, fun _ => ⟨⟨f, (hf.drops hD).congr (shut_view hl hD)⟩, c1, fun q => ?_⟩, by omega⟩
    · have h1 := (hD.here.1 1).trans hop
      rw [show (1 : Int) = ((1 : Nat) : Int) from rfl, look_nat] at h1 ⊢
      rw [List.getElem?_set_ne hi]; exact h1
    · rw [c3, kept_not, desc_congr (shut_view hl hD), desc_drops hf hD hnin, h.mem]
  | @other bk' n2 n4 n5 n6 hS =>
    have hS' := hS
    cases hS with
    | none => exact ⟨hop, fun _ => h, by omega⟩
    | opn hq ho =>
      have ho' := ho
      rcases ho with ⟨k, hk, h1, rfl, rfl⟩ | ⟨_, rfl, _⟩
      · rw [hk] at ho'
        obtain ⟨_, v1, v2⟩ := open_view (List.getElem?_eq_some_iff.1 h1).1 (by rw [look_nat, h1]; rfl) ho'
        refine ⟨?_, fun _ => h.same (hS'.snd hf h48) fun q => desc_congr v1 _ _, by omega⟩
        have := v2 1
        rw [show ((1 : Nat) : Int) = 1 from rfl] at this
        rw [this, hop]; rfl
      · exact ⟨hop, fun _ => h, by omega⟩
    | shut0 hq => exact (n2 hq).elim
    | shut hq => exact (n2 hq).elim
    | mint hq hm =>
      rcases hm with ⟨_, _, _, rfl⟩ | ⟨_, _, _, _, rfl⟩ | ⟨i, l, l', _, hl, _, hb, hy, rfl⟩
      · exact ⟨hop, fun _ => h, by omega⟩
      · exact ⟨hop, fun _ => h, by omega⟩
      · rcases lay_view hl (h48 i l hl) hy with ⟨k, _, _, _, hfr, _, _, hsh, hv⟩ | ⟨_, _, e, _⟩
        · refine ⟨(hsh 1).trans hop, fun _ => h.same (hS'.snd hf h48) fun q => ?_, by omega⟩
          rw [desc_lay hf hfr hv (.inl ⟨rfl, rfl⟩)]
          constructor
          · rintro (h1 | ⟨_, h1 | ⟨q', _, h2, _⟩⟩)
            · exact h1
            · have := h1.1; simp at this
            · have h2' : (-1 : Int) = (q'.1 : Int) := h2; omega
          · exact .inl
        · rw [e]; exact ⟨hop, fun _ => h, by omega⟩
    | derive hq => exact (n4 hq).elim
    | drop0 hq => exact (n5 hq).elim
    | drop hq => exact (n5 hq).elim
    | revoke0 hq => exact (n6 hq).elim
    | revoke hq => exact (n6 hq).elim
    | purge hq => exact (x7 hq).elim
end Go.Proofs.Ytimfgjndgfjjgaa
