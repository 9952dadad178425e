import Derived.Test.YtngmnlmagbfijabCI
namespace Go.Proofs.Ytngmnlmagbfijab
open Go.RowKit
/-- the program's plan and the document's are the same -/
structure AgF (s : Pl) (f : Int → Option Kp) (last : Int) : Prop where
  kn : ∀ k, s.wt k = (f k).map (·.1)
  ft : s.kind = 1 → s.last = last ∧ ∀ k v, f k = some v → v.2.1 = 0
  fs : s.kind = 2 → s.last = last ∧ ∀ k v, f k = some v → s.ps k = some v.2.1 ∧ (v.2.2 = true → last ≤ v.2.1)
  fr : s.kind = 3 → (∀ k v, f k = some v → val s.ps k = v.2.1 ∧ (v.2.2 = false → v.2.1 = 0)) ∧ ∀ k, f k = none → val s.ps k = 0
theorem AgF.start (k : Nat) : AgF (start k) (fun _ => none) 0 := ⟨fun _ => rfl, fun _ => ⟨rfl, fun _ _ h => by simp at h⟩, fun _ => ⟨rfl, fun _ _ h => by simp at h⟩, fun _ => ⟨fun _ _ h => by simp at h, fun _ _ => rfl⟩⟩
theorem AgF.bounds {s : Pl} {f : Int → Option Kp} {last : Int} {n : Nat} (h : AgF s f last) (ho : Okp n s) (hn : n ≤ 2097152) :
    ∀ k u, f k = some u → 1 ≤ u.1 ∧ u.1 ≤ 8 ∧ 0 ≤ u.2.1 ∧ u.2.1 ≤ 1152921504606846976 := by
  intro k u hu
  have hw : s.wt k = some u.1 := by rw [h.kn k, hu]; rfl
  have h1 := ho.wt k u.1 hw
  have hst := stp_bd h1.2.2.1 h1.2.2.2
  rcases ho.kind with e | e | e
  · have := (h.ft e).2 k u hu
    omega
  · have h2 := ((h.fs e).2 k u hu).1
    have h3 := ho.pass e k _ _ h2 hw
    have h4 := ho.last e
    omega
  · have h2 := ((h.fr e).1 k u hu).1
    unfold val at h2
    cases hp : s.ps k with
    | none => rw [hp] at h2; simp at h2; omega
    | some v => rw [hp] at h2; simp at h2; have := ho.wait e k v hp; omega
theorem AgF.set {s : Pl} {f : Int → Option Kp} {last : Int} (h : AgF s f last) {k v : Int} (hv : 1 ≤ v ∧ v ≤ 8) (h0 : s.kind = 2 → ∀ x, s.ps x = none ↔ f x = none) (hl : s.kind = 2 → 0 ≤ last) : AgF (setP s k v) (setD s.kind last f k v) last := by
  have hst := stp_bd hv.1 hv.2
  have hf : ∀ x, setD s.kind last f k v x = if x = k then some (v, capP s.kind last v (((f k).getD (1, 0, false)).2.1), ((f k).getD (1, 0, false)).2.2) else f x := fun x => by
    unfold setD setF oneF
    by_cases hx : x = k
    · rw [if_pos hx, if_pos hx]
    · rw [if_neg hx, if_neg hx, if_neg hx]
  refine ⟨fun x => ?_, fun e => ?_, fun e => ?_, fun e => ?_⟩
  · rw [hf x]
    show upd s.wt k v x = _
    unfold upd
    by_cases hx : x = k
    · rw [if_pos hx, if_pos hx]; rfl
    · rw [if_neg hx, if_neg hx]; exact h.kn x
  · have e' : s.kind = 1 := e
    obtain ⟨h1, h2⟩ := h.ft e'
    refine ⟨h1, fun x u hu => ?_⟩
    rw [hf x] at hu
    by_cases hx : x = k
    · rw [if_pos hx] at hu
      cases hu
      show capP s.kind last v _ = 0
      unfold capP
      rw [if_neg (fun h9 => by omega)]
      cases hk : f k with
      | none => rfl
      | some u => exact h2 k u hk
    · rw [if_neg hx] at hu; exact h2 x u hu
  · have e' : s.kind = 2 := e
    obtain ⟨h1, h2⟩ := h.fs e'
    have hl' := hl e'
    refine ⟨h1, fun x u hu => ?_⟩
    rw [hf x] at hu
    show (if s.kind = 2 then upd s.ps k (min ((s.ps k).getD 0) (s.last + stp v)) else s.ps) x = _ ∧ _
    rw [if_pos e', h1]
    unfold upd
    by_cases hx : x = k
    · rw [if_pos hx] at hu ⊢
      cases hu
      dsimp only
      unfold capP
      cases hk : f k with
      | none =>
        have := (h0 e' k).2 hk
        rw [this]
        simp only [Option.getD_none]
        rw [if_neg (fun h9 => by omega)]
        exact ⟨by rw [Int.min_eq_left (by omega)], fun h9 => by cases h9⟩
      | some u =>
        obtain ⟨h3, h4⟩ := h2 k u hk
        rw [h3]
        simp only [Option.getD_some]
        by_cases hc : last + stp v < u.2.1
        · rw [if_pos ⟨e', hc⟩, Int.min_eq_right (by omega)]
          exact ⟨rfl, fun _ => by omega⟩
        · rw [if_neg (fun h9 => hc h9.2), Int.min_eq_left (by omega)]
          exact ⟨rfl, h4⟩
    · rw [if_neg hx] at hu ⊢
      exact h2 x u hu
  · have e' : s.kind = 3 := e
    obtain ⟨h1, h2⟩ := h.fr e'
    have hps : (setP s k v).ps = s.ps := by unfold setP; dsimp only; rw [if_neg (by omega)]
    rw [hps]
    refine ⟨fun x u hu => ?_, fun x hx => ?_⟩
    · rw [hf x] at hu
      by_cases hx : x = k
      · rw [if_pos hx] at hu
        cases hu
        subst hx
        dsimp only
        unfold capP
        rw [if_neg (fun h9 => by omega)]
        cases hk : f x with
        | none => exact ⟨h2 x hk, fun _ => rfl⟩
        | some u => exact h1 x u hk
      · rw [if_neg hx] at hu; exact h1 x u hu
    · rw [hf x] at hx
      by_cases hxk : x = k
      · rw [if_pos hxk] at hx; cases hx
      · rw [if_neg hxk] at hx; exact h2 x hx
/-- keeping the first of two while it stays ahead -/
def gp (bt : Int → Int → Bool) : Int → List Int → Int
  | m, [] => m
  | m, x :: t => gp bt (if bt m x = true then m else x) t
theorem gp_min (g : Int → Int) : ∀ (l : List Int) (m : Int), pmin g m l = gp (fun a b => decide (g a ≤ g b)) m l
  | [], _ => rfl
  | x :: t, m => by
    unfold pmin gp
    rw [gp_min g t]
    congr 1
    by_cases h : g x < g m
    · rw [if_pos h, if_neg (by simp; omega)]
    · rw [if_neg h, if_pos (by simp; omega)]
theorem gp_max (g : Int → Int) : ∀ (l : List Int) (m : Int), pmax g m l = gp (fun a b => decide (g b ≤ g a)) m l
  | [], _ => rfl
  | x :: t, m => by
    unfold pmax gp
    rw [gp_max g t]
    congr 1
    by_cases h : g m < g x
    · rw [if_pos h, if_neg (by simp; omega)]
    · rw [if_neg h, if_pos (by simp; omega)]
theorem gp_turn (last : Int) : ∀ (l : List Int) (m : Int), gp (fun a b => decide (last < a) || decide (b ≤ last)) m l = if last < m then m else (l.find? (fun x => decide (last < x))).getD m
  | [], m => by unfold gp; simp
  | x :: t, m => by
    unfold gp
    rw [gp_turn last t]
    by_cases hm : last < m
    · simp [hm]
    · by_cases hx : last < x
      · have h9 : ¬ x ≤ last := by omega
        simp [hm, hx, h9]
      · have h9 : x ≤ last := by omega
        simp [hm, hx, h9]
theorem pickT_gp {last : Int} {R : List Int} (h : R ≠ []) : pickT last R = gp (fun a b => decide (last < a) || decide (b ≤ last)) (R.headD 0) R.tail := by
  rw [gp_turn]
  cases R with
  | nil => exact absurd rfl h
  | cons a t =>
    unfold pickT
    show ((a :: t).find? _).getD a = if last < a then a else (t.find? _).getD a
    by_cases ha : last < a
    · rw [if_pos ha, List.find?_cons_of_pos (by simpa using ha)]; rfl
    · rw [if_neg ha, List.find?_cons_of_neg (by simpa using ha)]
theorem gp_congr {b1 b2 : Int → Int → Bool} : ∀ (l : List Int) (m : Int), (∀ x ∈ m :: l, ∀ y ∈ m :: l, b1 x y = b2 x y) → gp b1 m l = gp b2 m l
  | [], _, _ => rfl
  | x :: t, m, h => by
    unfold gp
    rw [h m (by simp) x (by simp)]
    have hm : ∀ a, a ∈ (if b2 m x = true then m else x) :: t → a ∈ m :: x :: t := fun a ha => by
      rcases List.mem_cons.1 ha with h1 | h1
      · rw [h1]; split <;> simp
      · simp [h1]
    exact gp_congr t _ (fun a ha b hb => h a (hm a ha) b (hm b hb))
theorem gp_snoc (bt : Int → Int → Bool) : ∀ (l : List Int) (m x : Int), gp bt m (l ++ [x]) = if bt (gp bt m l) x = true then gp bt m l else x
  | [], m, x => rfl
  | a :: t, m, x => by
    show gp bt _ (t ++ [x]) = _
    rw [gp_snoc bt t]; rfl
/-- the serials of the rows that were ready, of the first i -/
def rdy (V : List Rw) (i : Nat) : List Int := ((V.take i).filter (·.was)).map (·.se)
theorem rdy_succ {V : List Rw} {i : Nat} {x : Rw} (h : V[i]? = some x) : rdy V (i + 1) = if x.was = true then rdy V i ++ [x.se] else rdy V i := by
  obtain ⟨h1, h2⟩ := List.getElem?_eq_some_iff.1 h
  unfold rdy
  rw [List.take_succ_eq_append_getElem h1, h2, List.filter_append, List.map_append]
  by_cases hw : x.was = true
  · rw [if_pos hw]; simp [hw]
  · rw [if_neg hw]; simp [hw]
/-- the best of the rows is who the fold finds -/
theorem bstI_gp {kd : Nat} {last : Int} {V : List Rw} {bt : Int → Int → Bool} (hb : ∀ a ∈ V, ∀ b ∈ V, a.was = true → b.was = true → btD kd last a b = bt a.se b.se) : ∀ (i : Nat), i ≤ V.length → (bstI kd last V i = none → rdy V i = []) ∧ ∀ b, bstI kd last V i = some b → ∃ x, V[b]? = some x ∧ x.was = true ∧ rdy V i ≠ [] ∧ x.se = gp bt ((rdy V i).headD 0) (rdy V i).tail
  | 0, _ => ⟨fun _ => rfl, fun b h => by simp [bstI] at h⟩
  | i + 1, hi => by
    have hx : V[i]? = some V[i] := List.getElem?_eq_getElem (by omega)
    obtain ⟨ih1, ih2⟩ := bstI_gp hb i (by omega)
    rw [rdy_succ hx]
    unfold bstI
    rw [hx]
    dsimp only
    by_cases hw : V[i].was = true
    · rw [if_pos hw, if_pos hw]
      cases hbo : bstI kd last V i with
      | none =>
        rw [ih1 hbo]
        refine ⟨fun h => by simp at h, fun b h => ?_⟩
        simp at h
        subst h
        exact ⟨_, hx, hw, by simp, rfl⟩
      | some c =>
        obtain ⟨y, hy, hyw, hne, hys⟩ := ih2 c hbo
        dsimp only
        rw [hy]
        dsimp only
        have e1 : (rdy V i ++ [V[i].se]).headD 0 = (rdy V i).headD 0 := by cases h9 : rdy V i with
          | nil => exact absurd h9 hne
          | cons a t => rfl
        have e2 : (rdy V i ++ [V[i].se]).tail = (rdy V i).tail ++ [V[i].se] := by cases h9 : rdy V i with
          | nil => exact absurd h9 hne
          | cons a t => rfl
        have hbb := hb y (List.mem_of_getElem? hy) V[i] (List.getElem_mem _) hyw hw
        refine ⟨fun h => by split at h <;> simp at h, fun b h => ?_⟩
        by_cases hbt : btD kd last y V[i] = true
        · rw [if_pos hbt] at h
          simp at h
          subst h
          refine ⟨y, hy, hyw, by simp, ?_⟩
          rw [e1, e2, gp_snoc, ← hys, ← hbb, if_pos hbt]
        · rw [if_neg hbt] at h
          simp at h
          subst h
          refine ⟨_, hx, hw, by simp, ?_⟩
          rw [e1, e2, gp_snoc, ← hys, ← hbb, if_neg hbt]
    · rw [if_neg hw, if_neg hw]
      exact ⟨ih1, ih2⟩
/-- a list that rises, told by its members -/
theorem rise_uniq {l1 l2 : List Int} (h1 : l1.Pairwise (fun a b => a < b)) (h2 : l2.Pairwise (fun a b => a < b)) (hm : ∀ k, k ∈ l1 ↔ k ∈ l2) : l1 = l2 :=
  List.Perm.eq_of_pairwise (le := fun a b : Int => a < b) (fun a b _ _ h1 h2 => by omega) h1 h2 ((List.perm_ext_iff_of_nodup (h1.imp (fun h => by omega)) (h2.imp (fun h => by omega))).2 hm)
theorem srt_lt' {R : List Int} (h : R.Nodup) : (srt R).Pairwise (fun a b => a < b) := by
  have h1 := srt_le R
  have h2 : (srt R).Nodup := (srt_perm R).nodup_iff.2 h
  exact (h1.and h2).imp (fun h => by omega)
theorem prB_parts {R : List Int} (h : prB R = true) : (∀ z ∈ R, 1 ≤ z) ∧ R.Nodup := by
  unfold prB at h
  rw [Bool.and_eq_true, List.all_eq_true, decide_eq_true_iff] at h
  exact ⟨fun z hz => by simpa using h.1 z hz, h.2⟩
/-- the rows that are ready are R, rising -/
theorem rdy_srt {L1 : List Rw} {f : Int → Option Kp} {kd : Nat} {last : Int} {R : List Int} (h : RelR L1 (admD f R)) (hn : R.Nodup) : rdy (L1.map (updD kd last R)) L1.length = srt R := by
  apply rise_uniq
  · unfold rdy
    have h1 : (L1.map (updD kd last R)).Pairwise (fun a b => a.se < b.se) := by
      rw [List.pairwise_map]; exact h.rise
    rw [List.pairwise_map]
    exact ((h1.sublist (List.take_sublist _ _)).sublist (List.filter_sublist))
  · exact srt_lt' hn
  · intro k
    rw [srt_mem]
    unfold rdy
    rw [List.take_of_length_le (by simp), List.mem_map]
    constructor
    · rintro ⟨x, hx, rfl⟩
      rw [List.mem_filter, List.mem_map] at hx
      obtain ⟨⟨y, hy, rfl⟩, hw⟩ := hx
      unfold updD at hw ⊢
      dsimp only at hw ⊢
      simpa using hw
    · intro hk
      obtain ⟨y, hy, hyk⟩ := h.all k (by unfold admD; rw [if_pos hk]; rfl)
      refine ⟨updD kd last R y, ?_, hyk⟩
      rw [List.mem_filter, List.mem_map]
      exact ⟨⟨y, hy, rfl⟩, by unfold updD; dsimp only; rw [hyk]; simpa using hk⟩
end Go.Proofs.Ytngmnlmagbfijab
