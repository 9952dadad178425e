import Derived.Test.YtimfgjndgfjjgaaR4
namespace Go.Proofs.Ytimfgjndgfjjgaa
open Go.RowKit

/-- the capability that CapsLowest lays -/
def c0 : Rc := ⟨3, 0, 1, 0, -1, -1⟩
def lOf (tk : List Bool) : Lst := tk.map (fun t => if t then some c0 else none)
/-- list 2 is open and holds at the taken slots the one capability; no other is open -/
structure Inv (tk : List Bool) (bk : List (Option Lst)) : Prop where
  len : tk.length = 48
  two : bk[2]? = some (some (lOf tk))
  oth : ∀ a : Nat, a ≠ 2 → look bk (a : Int) = none
/-- the lowest free slot from j on, or -1 -/
def low : List Bool → Nat → Int
  | [], _ => -1
  | t :: r, j => if t then low r (j + 1) else j
def lowF (tk : List Bool) (j : Nat) : Int := low (tk.drop j) j
theorem lowF_end {tk : List Bool} (h : tk.length = 48) : lowF tk 48 = -1 := by unfold lowF; rw [List.drop_eq_nil_of_le (by omega)]; rfl
theorem lowF_free {tk : List Bool} {s : Nat} (h : tk[s]? = some false) : lowF tk s = s := by
  obtain ⟨hs, e⟩ := List.getElem?_eq_some_iff.1 h
  unfold lowF; rw [List.drop_eq_getElem_cons hs, e]; rfl
theorem lowF_taken {tk : List Bool} {s : Nat} (h : tk[s]? = some true) : lowF tk s = lowF tk (s + 1) := by
  obtain ⟨hs, e⟩ := List.getElem?_eq_some_iff.1 h
  unfold lowF; rw [List.drop_eq_getElem_cons hs, e]; rfl
theorem low_ff : ∀ (l : List Bool) (j : Nat), (low l j = -1 ∧ ff (lOf l) = l.length) ∨ (∃ k, low l j = ((j + k : Nat) : Int) ∧ ff (lOf l) = k ∧ l[k]? = some false)
  | [], _ => .inl ⟨rfl, rfl⟩
  | false :: r, j => .inr ⟨0, by simp [low], by simp [ff, lOf, List.findIdx_cons], rfl⟩
  | true :: r, j => by
    have e : ff (lOf (true :: r)) = ff (lOf r) + 1 := by simp [ff, lOf, List.findIdx_cons]
    rcases low_ff r (j + 1) with ⟨h1, h2⟩ | ⟨k, h1, h2, h3⟩
    · exact .inl ⟨h1, by rw [e, h2]; rfl⟩
    · exact .inr ⟨k + 1, by show low r (j + 1) = _; rw [h1]; congr 1; omega, by rw [e, h2], h3⟩
theorem lowF_ff (tk : List Bool) : (lowF tk 0 = -1 ∧ ff (lOf tk) = tk.length) ∨ (∃ k : Nat, lowF tk 0 = (k : Int) ∧ ff (lOf tk) = k ∧ tk[k]? = some false) := by
  have := low_ff tk 0
  simpa [lowF] using this
theorem lOf_len (tk : List Bool) : (lOf tk).length = tk.length := by simp [lOf]
theorem lOf_get {tk : List Bool} {s : Nat} {t : Bool} (h : tk[s]? = some t) : (lOf tk)[s]? = some (if t then some c0 else none) := by simp [lOf, h]
theorem lOf_set (tk : List Bool) (s : Nat) (t : Bool) : lOf (tk.set s t) = (lOf tk).set s (if t then some c0 else none) := by simp [lOf, List.map_set]
theorem lOf_inv {tk : List Bool} {s : Nat} (h : (lOf tk)[s]? = some none) : tk[s]? = some false := by
  simp only [lOf, List.getElem?_map, Option.map_eq_some_iff] at h
  obtain ⟨t, h1, h2⟩ := h
  cases t
  · exact h1
  · cases h2
theorem lOf_inv2 {tk : List Bool} {s : Nat} {r : Rc} (h : (lOf tk)[s]? = some (some r)) : tk[s]? = some true ∧ r = c0 := by
  simp only [lOf, List.getElem?_map, Option.map_eq_some_iff] at h
  obtain ⟨t, h1, h2⟩ := h
  cases t
  · cases h2
  · cases h2; exact ⟨h1, rfl⟩
theorem Inv.set {tk : List Bool} {bk : List (Option Lst)} (h : Inv tk bk) (s : Nat) (t : Bool) : Inv (tk.set s t) (bk.set 2 (some ((lOf tk).set s (if t then some c0 else none)))) := by
  have hi : 2 < bk.length := (List.getElem?_eq_some_iff.1 h.two).1
  refine ⟨by simpa using h.len, by rw [List.getElem?_set_self hi, lOf_set], fun a ha => ?_⟩
  rw [look_nat, List.getElem?_set_ne (fun e => ha e.symm), ← look_nat]
  exact h.oth a ha
/-- what Mint(2, a, c) tells -/
def want (tk : List Bool) (a : Int) : Int := if a = -1 then lowF tk 0 else if 0 ≤ a ∧ a < 48 ∧ tk[a.toNat]? = some false then a else -1
theorem mb0 : mb 3 0 1 0 := by unfold mb; omega
theorem mint_want {tk : List Bool} {bk bk' : List (Option Lst)} {a v c : Int} (h : Inv tk bk) (hm : MintR bk 2 a 3 0 1 0 v c bk') :
    v = want tk a ∧ ((c = 0 ∧ ∃ k : Nat, v = (k : Int) ∧ k < 48 ∧ tk[k]? = some false ∧ Inv (tk.set k true) bk') ∨ (c ≠ 0 ∧ v = -1 ∧ Inv tk bk' ∧ (a = -1 → c = 2))) := by
  have h2 : look bk 2 = some (lOf tk) := by have := look_nat bk 2; rw [h.two] at this; exact this
  rcases hm with ⟨h1, _⟩ | ⟨_, h3, rfl, rfl, rfl⟩ | ⟨i, l, l', hi, h3, h4, _, h6, rfl⟩
  · rw [h2] at h1; cases h1
  · have ha : ¬ (-1 ≤ a ∧ a < 48) := h3.elim id (fun h => (h mb0).elim)
    refine ⟨?_, .inr ⟨by decide, rfl, h, fun e => by omega⟩⟩
    unfold want
    rw [if_neg (by omega), if_neg (by omega)]
  · obtain rfl : i = 2 := by omega
    rw [h.two] at h3; cases h3
    have hu := lowF_ff tk
    rcases h6 with ⟨k, hk, hf, rfl, rfl, rfl, h7⟩ | ⟨rfl, rfl, h7⟩
    · have htk := lOf_inv hf
      have hk48 : k < 48 := by rw [lOf_len, h.len] at hk; exact hk
      refine ⟨?_, .inl ⟨rfl, k, rfl, hk48, htk, ?_⟩⟩
      · rcases h7 with ⟨h8, h9⟩ | rfl
        · obtain rfl : a = -1 := by omega
          unfold want; rw [if_pos rfl]
          rcases hu with ⟨_, u2⟩ | ⟨k', u1, u2, _⟩
          · rw [lOf_len] at hk; omega
          · rw [u1, ← u2, h9]
        · unfold want; rw [if_neg (by omega), if_pos ⟨by omega, by omega, by simpa using htk⟩]
      · exact h.set k true
    · have hself : bk.set 2 (some (lOf tk)) = bk := by
        obtain ⟨hi2, e2⟩ := List.getElem?_eq_some_iff.1 h.two
        rw [← e2]; exact List.set_getElem_self hi2
      rw [hself]
      rcases h7 with ⟨h8, h9, rfl⟩ | ⟨h8, h9, rfl⟩ | ⟨h8, ⟨x, hx⟩, rfl⟩
      · obtain rfl : a = -1 := by omega
        refine ⟨?_, .inr ⟨by decide, rfl, h, fun _ => rfl⟩⟩
        unfold want; rw [if_pos rfl]
        rcases hu with ⟨u1, _⟩ | ⟨k', u1, u2, u3⟩
        · exact u1.symm
        · have := (List.getElem?_eq_some_iff.1 u3).1
          rw [lOf_len] at h9; omega
      · rw [lOf_len, h.len] at h9; omega
      · refine ⟨?_, .inr ⟨by decide, rfl, h, fun e => by omega⟩⟩
        unfold want
        rw [if_neg (by omega), if_neg]
        rintro ⟨_, _, h10⟩
        obtain ⟨q, rfl⟩ : ∃ q : Nat, a = q := ⟨a.toNat, by omega⟩
        rw [look_nat] at hx
        have h11 := lOf_get (show tk[q]? = some false by simpa using h10)
        rw [h11] at hx; cases hx
theorem inv_at {tk : List Bool} {bk : List (Option Lst)} (h : Inv tk bk) {s : Nat} {t : Bool} (hs : tk[s]? = some t) : atB bk 2 (s : Int) = if t then some c0 else none := by
  have := atN_eq (i := 2) (j := s) h.two
  rw [lOf_get hs] at this
  exact this
theorem drop_inv {tk : List Bool} {bk bk' : List (Option Lst)} {s : Nat} (h : Inv tk bk) (hl : ∀ (i : Nat) (l : Lst), bk'[i]? = some (some l) → l.length = 48) (hd : DropR bk 2 s c0 bk') : Inv (tk.set s false) bk' := by
  have h2 : (look bk' (2 : Int)).isSome = true := by
    rw [hd.1 2]
    have := look_nat bk 2
    rw [h.two] at this
    rw [show ((2 : Nat) : Int) = 2 from rfl] at this
    rw [this]; rfl
  obtain ⟨l, hl2⟩ := Option.isSome_iff_exists.1 h2
  have hbl : bk'[2]? = some (some l) := by
    have h3 := look_nat bk' 2
    rw [show ((2 : Nat) : Int) = 2 from rfl, hl2] at h3
    cases h4 : bk'[2]? with
    | none => rw [h4] at h3; cases h3
    | some o => rw [h4] at h3; cases h3; rfl
  refine ⟨by simpa using h.len, ?_, fun a ha => ?_⟩
  · rw [hbl]
    congr 2
    have hl48 := hl 2 l hbl
    apply List.ext_getElem?
    intro q
    rcases Nat.lt_or_ge q 48 with hq | hq
    · have h5 := hd.2 2 q
      rw [atN_eq hbl] at h5
      have hql : q < l.length := by omega
      obtain ⟨t, ht⟩ : ∃ t, tk[q]? = some t := ⟨_, List.getElem?_eq_getElem (by rw [h.len]; exact hq)⟩
      have h6 := inv_at h ht
      rw [show ((2 : Nat) : Int) = 2 from rfl, h6, List.getElem?_eq_getElem hql] at h5
      rw [List.getElem?_eq_getElem hql, lOf_set, List.getElem?_set]
      have hrp : rp 2 s c0 c0 = c0 := by simp [rp, c0]
      by_cases e : s = q
      · subst e
        rw [if_pos rfl, if_pos (by rw [lOf_len, h.len]; exact hq)]
        simpa using h5
      · rw [if_neg e, lOf_get ht]
        rw [if_neg (fun e' => e e'.2.symm)] at h5
        congr 1
        cases t
        · simpa using h5
        · simpa [hrp] using h5
    · rw [List.getElem?_eq_none (by omega), List.getElem?_eq_none (by rw [lOf_len, List.length_set, h.len]; exact hq)]
  · have h3 := hd.1 (a : Int)
    rw [h.oth a ha] at h3
    cases h4 : look bk' (a : Int) with
    | none => rfl
    | some l => rw [h4] at h3; cases h3
theorem inv_full_count {tk : List Bool} (hl : tk.length = 48) (hf : ∀ s, s < 48 → tk[s]? = some true) : (lOf tk).countP Option.isSome = 48 := by
  have e : tk = List.replicate 48 true := by
    apply List.ext_getElem?
    intro q
    rcases Nat.lt_or_ge q 48 with hq | hq
    · rw [hf q hq, List.getElem?_replicate, if_pos hq]
    · rw [List.getElem?_eq_none (by omega), List.getElem?_eq_none (by simp; omega)]
  subst e
  decide
theorem inv_on {tk : List Bool} {bk : List (Option Lst)} (h : Inv tk bk) (hf : ∀ s, s < 48 → tk[s]? = some true) : (pls (fun r => decide (r.k = 3) && decide (r.o = 0)) bk).length = 48 := by
  have e : tk = List.replicate 48 true := by
    apply List.ext_getElem?
    intro q
    rcases Nat.lt_or_ge q 48 with hq | hq
    · rw [hf q hq, List.getElem?_replicate, if_pos hq]
    · rw [List.getElem?_eq_none (by rw [h.len]; exact hq), List.getElem?_eq_none (by simp; omega)]
  have hidx : idx bk = [2] := by
    have h1 : idx bk = idx ([none, none, some ()] : List (Option Unit)) ∨ True := .inr trivial
    clear h1
    have hm : ∀ i, i ∈ idx bk ↔ i = 2 := by
      intro i
      unfold idx
      simp only [List.mem_map]
      constructor
      · rintro ⟨⟨i', l⟩, h1, rfl⟩
        have h2 := prs_mem.1 h1
        rcases Nat.decEq i' 2 with h3 | h3
        · have := h.oth i' h3
          rw [look_nat, h2] at this; cases this
        · exact h3
      · rintro rfl
        exact ⟨(2, lOf tk), prs_mem.2 h.two, rfl⟩
    have hs : (idx bk).Pairwise (· < ·) := by
      unfold idx prs
      exact List.pairwise_map.2 (prsL_sorted _ _)
    match hb : idx bk with
    | [] => have := (hm 2).2 rfl; rw [hb] at this; cases this
    | [x] => have := (hm x).1 (by rw [hb]; simp); rw [this]
    | x :: y :: r =>
      have h3 := (hm x).1 (by rw [hb]; simp)
      have h4 := (hm y).1 (by rw [hb]; simp)
      rw [hb] at hs
      have := (List.pairwise_cons.1 hs).1 y (by simp)
      omega
  unfold pls plsI one
  rw [hidx]
  have hlf : lf bk 2 = lOf tk := by unfold lf; rw [look_nat, h.two]; rfl
  simp only [List.flatMap_cons, List.flatMap_nil, List.append_nil, List.length_map]
  rw [hlf, e]
  decide
theorem inv_start : Inv (List.replicate 48 false) ((List.replicate 16 (none : Option Lst)).set 2 (some (List.replicate 48 none))) := by
  refine ⟨rfl, rfl, fun a ha => ?_⟩
  rw [look_nat, List.getElem?_set_ne (fun e => ha e.symm), List.getElem?_replicate]
  split <;> rfl
end Go.Proofs.Ytimfgjndgfjjgaa
