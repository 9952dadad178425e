import Derived.Test.YtimfgjndgfjjgaaV3
namespace Go.Proofs.Ytimfgjndgfjjgaa
open Go.RowKit

theorem nodup_len {α : Type} [DecidableEq α] : ∀ (l m : List α), l.Nodup → (∀ x ∈ l, x ∈ m) → l.length ≤ m.length
  | [], _, _, _ => Nat.zero_le _
  | x :: l, m, hn, hs => by
    obtain ⟨h1, h2⟩ := List.nodup_cons.1 hn
    have hx := hs x (by simp)
    have h3 := nodup_len l (m.erase x) h2 (fun y hy => (List.mem_erase_of_ne (fun e => by subst e; exact h1 hy)).2 (hs y (by simp [hy])))
    have h4 := List.length_erase_of_mem hx
    have h5 := List.length_pos_of_mem hx
    simp only [List.length_cons]
    omega
theorem four_open {bk : List (Option Lst)} (h : Four bk) {i : Nat} (hi : i < 4) : ∃ l, bk[i]? = some (some l) ∧ look bk (i : Int) = some l := look_len (by rw [h]; simpa using hi)
theorem line_start {bk : List (Option Lst)} (h : Begun bk 1 5 7 15) : LineI [(0, 0)] [true] bk := by
  refine ⟨rfl, by simp, h.four, fun i p hp ht => ?_, fun i p hp ht => ?_, fun a b hab => ?_⟩
  · match i, hp with
    | 0, hp => simp at hp; subst hp; rw [h.at0]; rfl
    | i + 1, hp => simp at hp
  · match i, ht with
    | 0, ht => simp at ht
    | i + 1, ht => simp at ht
  · rw [h.at0, if_neg (fun e => hab (by simp [e.1, e.2]))]
def plc (line : List (Nat × Nat)) (j : Nat) : Int × Int := (((line.getD j (0, 0)).1 : Int), ((line.getD j (0, 0)).2 : Int))
theorem getD_of {line : List (Nat × Nat)} {j : Nat} {p : Nat × Nat} (h : line[j]? = some p) : line.getD j (0, 0) = p := by simp [List.getD, h]
theorem line_derive {line : List (Nat × Nat)} {th : List Bool} {bk bk' : List (Option Lst)} {v c : Int} {p : Nat × Nat} (h : LineI line th bk) (h48 : ∀ (i : Nat) (l : Lst), bk[i]? = some (some l) → l.length = 48) (hall : ∀ i, i < line.length → th[i]? = some true) (hpos : 0 < line.length) (hlt : line.length < 48) (hp : line[line.length - 1]? = some p)
    (hD : DeriveR bk (p.1 : Int) (p.2 : Int) ((line.length % 4 : Nat) : Int) (-1) 15 v c bk') : ∃ k : Nat, v = k ∧ c = 0 ∧ k < 48 ∧ LineI (line ++ [(line.length % 4, k)]) (th ++ [true]) bk' := by
  have hlast : line.length - 1 < line.length := by omega
  have hat := h.yes _ p hp (hall _ hlast)
  obtain ⟨l0, hl0, hlk⟩ := four_open h.four (i := line.length % 4) (by omega)
  have hup : ∀ i, i ≤ line.length → upOf (line ++ [(line.length % 4, 0)]) (th ++ [true]) i = upOf line th i := by
    intro i; induction i with
    | zero => intro _; rfl
    | succ i ih =>
      intro hi
      have e1 : (th ++ [true])[i]? = th[i]? := List.getElem?_append_left (by rw [h.len]; omega)
      have e2 : (line ++ [(line.length % 4, 0)]).getD i (0, 0) = line.getD i (0, 0) := by simp only [List.getD]; rw [List.getElem?_append_left (by omega)]
      simp only [upOf, e1, e2, ih (by omega)]
  have hupk : ∀ (k i : Nat), i ≤ line.length → upOf (line ++ [(line.length % 4, k)]) (th ++ [true]) i = upOf line th i := by
    intro k i; induction i with
    | zero => intro _; rfl
    | succ i ih =>
      intro hi
      have e1 : (th ++ [true])[i]? = th[i]? := List.getElem?_append_left (by rw [h.len]; omega)
      have e2 : (line ++ [(line.length % 4, k)]).getD i (0, 0) = line.getD i (0, 0) := by simp only [List.getD]; rw [List.getElem?_append_left (by omega)]
      simp only [upOf, e1, e2, ih (by omega)]
  clear hup
  have hupl : upOf line th line.length = ((p.1 : Int), (p.2 : Int)) := by
    obtain ⟨n, hn⟩ : ∃ n, line.length = n + 1 := ⟨line.length - 1, by omega⟩
    rw [hn]
    have h9 : th[n]? = some true := hall n (by omega)
    have hp2 : line[n]? = some p := by rw [hn] at hp; simpa using hp
    simp only [upOf, h9, if_true, getD_of hp2]
  rcases hD with ⟨h1, _⟩ | ⟨_, h1, _⟩ | ⟨_, _, h1, _⟩ | ⟨_, ⟨q, h1, h2⟩, _⟩ | ⟨i, l, l', q, hi, h3, h4, _, _, _, h6, rfl⟩
  · rw [hlk] at h1; cases h1
  · rw [hat] at h1; cases h1
  · omega
  · rw [hat] at h1; cases h1
    have h9 : okR 15 (rcl (upOf line th (line.length - 1))) = true := by
      show (bits .andNot .i64 (bits .or .i64 15 4) 15 == 0) = true
      decide
    rw [h9] at h2; cases h2
  · obtain rfl : line.length % 4 = i := by omega
    rw [hat] at h4; cases h4
    rcases lay_view h3 (h48 _ l h3) h6 with ⟨k, hk, rfl, rfl, hfree, _, _, hsh, hatk⟩ | ⟨_, _, _, h7⟩
    · have hnot : (line.length % 4, k) ∉ line := by
        intro hm
        obtain ⟨j, hj, ej⟩ := List.mem_iff_getElem.1 hm
        have := h.yes j _ (List.getElem?_eq_some_iff.2 ⟨hj, ej⟩) (hall j hj)
        simp only at this
        rw [hfree] at this; cases this
      refine ⟨k, rfl, rfl, hk, ⟨by simp [h.len], ?_, h.four.shape hsh, fun i p' hp' ht => ?_, fun i p' hp' ht => ?_, fun a b hab => ?_⟩⟩
      · exact List.nodup_append.2 ⟨h.nd, by simp, fun x hx y hy e => by simp at hy; subst hy; subst e; exact hnot hx⟩
      · rw [hatk]
        rcases Nat.lt_or_ge i line.length with hi' | hi'
        · rw [List.getElem?_append_left hi'] at hp'
          rw [List.getElem?_append_left (by rw [h.len]; exact hi')] at ht
          rw [if_neg (fun e => hnot (by have := List.mem_of_getElem? hp'; rw [← e.1, ← e.2]; exact this)), hupk k i (by omega)]
          exact h.yes i p' hp' ht
        · have hil : i = line.length := by
            have := (List.getElem?_eq_some_iff.1 hp').1; simp at this; omega
          subst hil
          rw [List.getElem?_append_right (Nat.le_refl _)] at hp'
          simp at hp'
          subst hp'
          rw [if_pos ⟨rfl, rfl⟩, hupk k _ (Nat.le_refl _), hupl]; rfl
      · rcases Nat.lt_or_ge i line.length with hi' | hi'
        · rw [List.getElem?_append_left (by rw [h.len]; exact hi'), hall i hi'] at ht; cases ht
        · have hil : i = line.length := by
            have := (List.getElem?_eq_some_iff.1 hp').1; simp at this; omega
          subst hil
          rw [List.getElem?_append_right (by rw [h.len]; exact Nat.le_refl _)] at ht
          simp [h.len] at ht
      · rw [hatk]
        rw [List.mem_append] at hab
        rw [if_neg (fun e => hab (.inr (by simp [e.1, e.2])))]
        exact h.oth a b (fun hm => hab (.inl hm))
    · rcases h7 with ⟨_, h8⟩ | h8 | ⟨h8, _⟩
      · exfalso
        have h9 : ∀ j : Nat, j < 48 → (line.length % 4, j) ∈ line := fun j hj => by
          refine Classical.byContradiction fun hn => h8 j hj ?_
          exact h.oth _ _ hn
        have h10 := nodup_len ((List.range 48).map (fun j => (line.length % 4, j))) line (List.pairwise_map.2 ((List.nodup_range (n := 48)).imp (fun hne e => hne (by cases e; rfl)))) (fun x hx => by
          obtain ⟨j, hj, rfl⟩ := List.mem_map.1 hx
          exact h9 j (List.mem_range.1 hj))
        simp at h10
        omega
      · omega
      · omega
theorem upOf_set {line : List (Nat × Nat)} {th : List Bool} (hn : line.Nodup) {d : Nat} (hd : d < line.length) (hl : th.length = line.length) (htd : th[d]? = some true) : ∀ i, i ≤ line.length → upOf line (th.set d false) i = if i ≤ d then upOf line th i else if upOf line th i = plc line d then upOf line th d else upOf line th i
  | 0, _ => by simp [upOf]
  | i + 1, hi => by
    have ih := upOf_set hn hd hl htd i (by omega)
    rcases Nat.lt_trichotomy i d with h1 | h1 | h1
    · rw [if_pos (show i + 1 ≤ d by omega)]
      rw [if_pos (show i ≤ d by omega)] at ih
      have e : (th.set d false)[i]? = th[i]? := List.getElem?_set_ne (by omega)
      simp only [upOf, e, ih]
    · subst h1
      rw [if_pos (Nat.le_refl _)] at ih
      have e : (th.set i false)[i]? = some false := List.getElem?_set_self (by omega)
      have e2 : upOf line th (i + 1) = plc line i := by simp only [upOf, htd, if_true]; rfl
      rw [if_neg (by omega), e2, if_pos rfl]
      simp only [upOf, e]
      rw [if_neg (by simp), ih]
    · rw [if_neg (show ¬ i + 1 ≤ d by omega)]
      rw [if_neg (show ¬ i ≤ d by omega)] at ih
      have e : (th.set d false)[i]? = th[i]? := List.getElem?_set_ne (by omega)
      by_cases ht : th[i]? = some true
      · have e2 : upOf line th (i + 1) = plc line i := by simp only [upOf, ht, if_true]; rfl
        have e3 : upOf line (th.set d false) (i + 1) = plc line i := by simp only [upOf, e, ht, if_true]; rfl
        have hne : plc line i ≠ plc line d := by
          intro he
          have hpi : line[i]? = some (line.getD i (0, 0)) := by rw [List.getElem?_eq_getElem (by omega)]; simp [List.getD, show i < line.length by omega]
          have hpd : line[d]? = some (line.getD d (0, 0)) := by rw [List.getElem?_eq_getElem hd]; simp [List.getD, hd]
          unfold plc at he
          have h3 : line.getD i (0, 0) = line.getD d (0, 0) := by
            have h4 := congrArg Prod.fst he
            have h5 := congrArg Prod.snd he
            simp only at h4 h5
            exact Prod.ext (by omega) (by omega)
          rw [h3] at hpi
          have := nd_eq hn hpi hpd
          omega
        rw [e3, e2, if_neg hne]
      · have e2 : upOf line th (i + 1) = upOf line th i := by simp only [upOf, ht, if_false]
        have e3 : upOf line (th.set d false) (i + 1) = upOf line (th.set d false) i := by simp only [upOf, e, ht, if_false]
        rw [e3, e2, ih]
theorem line_drop {line : List (Nat × Nat)} {th : List Bool} {bk bk' : List (Option Lst)} {d : Nat} {p : Nat × Nat} (h : LineI line th bk) (hp : line[d]? = some p) (ht : th[d]? = some true) (hD : DropR bk p.1 p.2 (rcl (upOf line th d)) bk') : LineI line (th.set d false) bk' := by
  have hd : d < line.length := (List.getElem?_eq_some_iff.1 hp).1
  have hpl : plc line d = ((p.1 : Int), (p.2 : Int)) := by unfold plc; rw [getD_of hp]
  refine ⟨by simpa using h.len, h.nd, h.four.shape hD.1, fun i q hq hti => ?_, fun i q hq hti => ?_, fun a b hab => ?_⟩
  · have hid : i ≠ d := fun e => by subst e; rw [List.getElem?_set_self (by rw [h.len]; exact hd)] at hti; cases hti
    rw [List.getElem?_set_ne (fun e => hid e.symm)] at hti
    have hqp : ¬ (q.1 = p.1 ∧ q.2 = p.2) := fun e => hid (nd_eq h.nd hq (by rw [hp]; congr 1; exact Prod.ext e.1.symm e.2.symm))
    rw [hD.2, if_neg hqp, h.yes i q hq hti, upOf_set h.nd hd h.len ht i (by have := (List.getElem?_eq_some_iff.1 hq).1; omega), hpl]
    show some (rp p.1 p.2 (rcl (upOf line th d)) (rcl (upOf line th i))) = _
    congr 1
    have key : ∀ u : Int × Int, rp p.1 p.2 (rcl (upOf line th d)) (rcl u) = rcl (if u = ((p.1 : Int), (p.2 : Int)) then upOf line th d else u) := by
      intro u
      unfold rp
      by_cases e : u = ((p.1 : Int), (p.2 : Int))
      · rw [if_pos e, if_pos (by subst e; exact ⟨rfl, rfl⟩)]; rfl
      · rw [if_neg e, if_neg (fun e' => e (Prod.ext e'.1 e'.2))]
    rw [key]
    by_cases hle : i ≤ d
    · rw [if_pos hle]
      have hne : upOf line th i ≠ ((p.1 : Int), (p.2 : Int)) := by
        rcases upOf_cases line th i with h1 | ⟨j, hj, _, h1, _⟩
        · rw [h1]; intro e; have := congrArg Prod.fst e; simp only at this; omega
        · rw [h1]
          intro e
          have hjl : j < line.length := by omega
          have hpj : line[j]? = some (line.getD j (0, 0)) := by rw [List.getElem?_eq_getElem hjl]; simp [List.getD, hjl]
          have h4 := congrArg Prod.fst e
          have h5 := congrArg Prod.snd e
          simp only at h4 h5
          have h6 : line.getD j (0, 0) = p := Prod.ext (by omega) (by omega)
          rw [h6] at hpj
          have := nd_eq h.nd hpj hp
          omega
      rw [if_neg hne]
    · rw [if_neg hle]
  · rw [hD.2]
    by_cases e : q.1 = p.1 ∧ q.2 = p.2
    · rw [if_pos e]
    · rw [if_neg e]
      have hid : i ≠ d := fun e' => by subst e'; rw [hq] at hp; cases hp; exact e ⟨rfl, rfl⟩
      rw [List.getElem?_set_ne (fun e' => hid e'.symm)] at hti
      rw [h.no i q hq hti]; rfl
  · rw [hD.2, h.oth a b hab]
    split <;> rfl
def ixOf : List (Nat × Nat) → Nat × Nat → Nat
  | [], _ => 0
  | x :: l, p => if x = p then 0 else ixOf l p + 1
theorem ixOf_at : ∀ (line : List (Nat × Nat)) (i : Nat) (p : Nat × Nat), line.Nodup → line[i]? = some p → ixOf line p = i
  | [], i, p, _, h => by simp at h
  | x :: l, 0, p, _, h => by simp at h; subst h; simp [ixOf]
  | x :: l, i + 1, p, hn, h => by
    obtain ⟨h1, h2⟩ := List.nodup_cons.1 hn
    have h3 : l[i]? = some p := by simpa using h
    have hne : ¬ x = p := fun e => by subst e; exact h1 (List.mem_of_getElem? h3)
    simp only [ixOf, if_neg hne, ixOf_at l i p h2 h3]
theorem line_rk {line : List (Nat × Nat)} {th : List Bool} {bk : List (Option Lst)} (h : LineI line th bk) : ∃ f, Rk bk f := by
  refine ⟨fun e s => ixOf line (e.toNat, s.toNat), fun e s r hr => ?_⟩
  have key : ∀ (i : Nat) (q : Nat × Nat), line[i]? = some q → ixOf line ((q.1 : Int).toNat, (q.2 : Int).toNat) = i := by
    intro i q hq
    simp only [Int.toNat_natCast]
    exact ixOf_at line i q h.nd hq
  obtain ⟨a, b, l, rfl, rfl, _, _, _⟩ := atB_some hr
  have hm : (a, b) ∈ line := Classical.byContradiction fun hn => by rw [h.oth a b hn] at hr; cases hr
  obtain ⟨i, hi, ei⟩ := List.mem_iff_getElem.1 hm
  have hp : line[i]? = some (a, b) := List.getElem?_eq_some_iff.2 ⟨hi, ei⟩
  have hti : th[i]? = some true := by
    have hil : i < th.length := by rw [h.len]; exact hi
    cases ht : th[i] with
    | true => rw [List.getElem?_eq_getElem hil, ht]
    | false =>
      have := h.no i _ hp (by rw [List.getElem?_eq_getElem hil, ht])
      simp only at this
      rw [this] at hr; cases hr
  have h1 := h.yes i _ hp hti
  simp only at h1
  rw [h1] at hr; cases hr
  rcases upOf_cases line th i with h2 | ⟨j, hj, htj, h2, _⟩
  · left; rw [h2]; exact ⟨rfl, rfl⟩
  · right
    have hjl : j < line.length := by omega
    have hpj : line[j]? = some (line.getD j (0, 0)) := by rw [List.getElem?_eq_getElem hjl]; simp [List.getD, hjl]
    rw [h2]
    refine ⟨⟨_, h.yes j _ hpj htj⟩, ?_⟩
    have k1 := key j _ hpj
    have k2 := key i _ hp
    show ixOf line ((((line.getD j (0, 0)).1 : Nat) : Int).toNat, (((line.getD j (0, 0)).2 : Nat) : Int).toNat) < ixOf line ((a : Int).toNat, (b : Int).toNat)
    rw [k1, show ixOf line ((a : Int).toNat, (b : Int).toNat) = i from k2]
    exact hj
end Go.Proofs.Ytimfgjndgfjjgaa
