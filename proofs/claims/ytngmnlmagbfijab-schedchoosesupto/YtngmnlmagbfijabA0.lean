namespace Go.Proofs.Ytngmnlmagbfijab
/-- a plan: its kind, the weights, what is kept of each serial (passes, choices waited), the last chosen one or the mark -/
structure Pl where
  kind : Nat
  wt : Int → Option Int
  ps : Int → Option Int
  last : Int
def upd (f : Int → Option Int) (k v : Int) : Int → Option Int := fun c => if c = k then some v else f c
/-- by how much a pass grows -/
def stp (v : Int) : Int := 840 / v
def start (k : Nat) : Pl := ⟨k, fun _ => none, fun _ => none, 0⟩
def setP (s : Pl) (k v : Int) : Pl := { s with wt := upd s.wt k v, ps := if s.kind = 2 then upd s.ps k (min ((s.ps k).getD 0) (s.last + stp v)) else s.ps }
/-- the weights when these are ready -/
def admW (s : Pl) (R : List Int) : Int → Option Int := fun k => if k ∈ R then some ((s.wt k).getD 1) else s.wt k
def admP (s : Pl) (R : List Int) : Int → Option Int := fun k => if k ∈ R then some (max ((s.ps k).getD 0) s.last) else s.ps k
def pmin (f : Int → Int) : Int → List Int → Int
  | m, [] => m
  | m, x :: t => pmin f (if f x < f m then x else m) t
def pmax (f : Int → Int) : Int → List Int → Int
  | m, [] => m
  | m, x :: t => pmax f (if f m < f x then x else m) t
def pickT (last : Int) (R : List Int) : Int := (R.find? (fun x => decide (last < x))).getD (R.headD 0)
def val (f : Int → Option Int) (k : Int) : Int := (f k).getD 0
/-- who goes next -/
def pick (s : Pl) (R : List Int) : Int :=
  if s.kind = 1 then pickT s.last R
  else if s.kind = 2 then pmin (val (admP s R)) (R.headD 0) R.tail
  else pmax (fun k => val (admW s R) k + val s.ps k) (R.headD 0) R.tail
def nextP (s : Pl) (R : List Int) : Pl :=
  if s.kind = 1 then { s with wt := admW s R, last := pick s R }
  else if s.kind = 2 then { s with wt := admW s R, last := val (admP s R) (pick s R), ps := upd (admP s R) (pick s R) (val (admP s R) (pick s R) + stp (val (admW s R) (pick s R))) }
  else { s with wt := admW s R, ps := fun k => if k ∈ R ∧ k ≠ pick s R then some (val s.ps k + 1) else none }
theorem pmin_mem (f : Int → Int) : ∀ (l : List Int) (m : Int), pmin f m l ∈ m :: l
  | [], m => by simp [pmin]
  | x :: t, m => by
    have := pmin_mem f t (if f x < f m then x else m)
    unfold pmin
    rw [List.mem_cons] at this
    rcases this with h | h
    · rw [h]; split <;> simp
    · simp [h]
theorem pmin_le (f : Int → Int) : ∀ (l : List Int) (m : Int), ∀ y ∈ m :: l, f (pmin f m l) ≤ f y
  | [], m, y, h => by simp at h; subst h; simp [pmin]
  | x :: t, m, y, h => by
    unfold pmin
    have ih := pmin_le f t (if f x < f m then x else m)
    have h0 := ih _ (List.mem_cons_self ..)
    rw [List.mem_cons, List.mem_cons] at h
    rcases h with rfl | rfl | h
    · by_cases hc : f x < f y
      · rw [if_pos hc] at h0 ⊢; omega
      · rw [if_neg hc] at h0 ⊢; omega
    · by_cases hc : f y < f m
      · rw [if_pos hc] at h0 ⊢; omega
      · rw [if_neg hc] at h0 ⊢; omega
    · exact ih y (List.mem_cons_of_mem _ h)
theorem pmax_mem (f : Int → Int) : ∀ (l : List Int) (m : Int), pmax f m l ∈ m :: l
  | [], m => by simp [pmax]
  | x :: t, m => by
    have := pmax_mem f t (if f m < f x then x else m)
    unfold pmax
    rw [List.mem_cons] at this
    rcases this with h | h
    · rw [h]; split <;> simp
    · simp [h]
theorem pmax_le (f : Int → Int) : ∀ (l : List Int) (m : Int), ∀ y ∈ m :: l, f y ≤ f (pmax f m l)
  | [], m, y, h => by simp at h; subst h; simp [pmax]
  | x :: t, m, y, h => by
    unfold pmax
    have ih := pmax_le f t (if f m < f x then x else m)
    have h0 := ih _ (List.mem_cons_self ..)
    rw [List.mem_cons, List.mem_cons] at h
    rcases h with rfl | rfl | h
    · by_cases hc : f y < f x
      · rw [if_pos hc] at h0 ⊢; omega
      · rw [if_neg hc] at h0 ⊢; omega
    · by_cases hc : f m < f y
      · rw [if_pos hc] at h0 ⊢; omega
      · rw [if_neg hc] at h0 ⊢; omega
    · exact ih y (List.mem_cons_of_mem _ h)
theorem head_tail {R : List Int} (h : R ≠ []) : R.headD 0 :: R.tail = R := by cases R with
  | nil => exact absurd rfl h
  | cons a t => rfl
theorem pickT_mem {last : Int} {R : List Int} (h : R ≠ []) : pickT last R ∈ R := by
  unfold pickT
  cases hf : R.find? (fun x => decide (last < x)) with
  | some c => exact List.mem_of_find?_eq_some hf
  | none => cases R with
    | nil => exact absurd rfl h
    | cons a t => simp
theorem pick_mem {s : Pl} {R : List Int} (h : R ≠ []) : pick s R ∈ R := by
  unfold pick
  split
  · exact pickT_mem h
  split
  · have := pmin_mem (val (admP s R)) R.tail (R.headD 0)
    rwa [head_tail h] at this
  · have := pmax_mem (fun k => val (admW s R) k + val s.ps k) R.tail (R.headD 0)
    rwa [head_tail h] at this
/-- what always holds of a plan -/
structure Okp (n : Nat) (s : Pl) : Prop where
  kind : s.kind = 1 ∨ s.kind = 2 ∨ s.kind = 3
  wt : ∀ k v, s.wt k = some v → 1 ≤ k ∧ k ≤ 9223372036854775807 ∧ 1 ≤ v ∧ v ≤ 8
  known : s.kind = 2 → ∀ k, (s.ps k).isSome = (s.wt k).isSome
  last : s.kind = 2 → 0 ≤ s.last ∧ s.last ≤ 840 * n
  pass : s.kind = 2 → ∀ k v u, s.ps k = some v → s.wt k = some u → 0 ≤ v ∧ v ≤ s.last + stp u
  wait : s.kind = 3 → ∀ k v, s.ps k = some v → 1 ≤ v ∧ v ≤ n ∧ (s.wt k).isSome = true
  lastT : s.kind = 1 → 0 ≤ s.last ∧ s.last ≤ 9223372036854775807
theorem stp_bd {v : Int} (h : 1 ≤ v) (h2 : v ≤ 8) : 105 ≤ stp v ∧ stp v ≤ 840 := by
  unfold stp
  have : v = 1 ∨ v = 2 ∨ v = 3 ∨ v = 4 ∨ v = 5 ∨ v = 6 ∨ v = 7 ∨ v = 8 := by omega
  rcases this with h | h | h | h | h | h | h | h <;> subst h <;> decide
theorem Okp.start {k : Nat} (h : k = 1 ∨ k = 2 ∨ k = 3) : Okp 0 (start k) :=
  ⟨h, fun _ _ h => by simp [Go.Proofs.Ytngmnlmagbfijab.start] at h, fun _ _ => rfl, fun _ => by simp [Go.Proofs.Ytngmnlmagbfijab.start], fun _ _ _ _ h => by simp [Go.Proofs.Ytngmnlmagbfijab.start] at h, fun _ _ _ h => by simp [Go.Proofs.Ytngmnlmagbfijab.start] at h, fun _ => by simp [Go.Proofs.Ytngmnlmagbfijab.start]⟩
theorem Okp.mono {n m : Nat} {s : Pl} (h : Okp n s) (hm : n ≤ m) : Okp m s :=
  ⟨h.kind, h.wt, h.known, fun e => by have := h.last e; omega, h.pass, fun e k v hv => by have := h.wait e k v hv; exact ⟨this.1, by omega, this.2.2⟩, h.lastT⟩
theorem Okp.set {n : Nat} {s : Pl} (h : Okp n s) {k v : Int} (h1 : 1 ≤ k) (h2 : k ≤ 9223372036854775807) (h3 : 1 ≤ v) (h4 : v ≤ 8) : Okp n (setP s k v) := by
  have hb := stp_bd h3 h4
  refine ⟨h.kind, fun c u hu => ?_, fun e c => ?_, fun e => h.last e, fun e c u y hu hy => ?_, fun e c u hu => ?_, fun e => h.lastT e⟩
  · simp only [setP, upd] at hu
    by_cases hc : c = k
    · rw [if_pos hc] at hu; simp at hu; omega
    · rw [if_neg hc] at hu; exact h.wt c u hu
  · have e' : s.kind = 2 := e
    simp only [setP, e', if_true, upd]
    by_cases hc : c = k
    · simp [hc]
    · rw [if_neg hc, if_neg hc]; exact h.known e' c
  · have e' : s.kind = 2 := e
    have hl := h.last e'
    simp only [setP, e', if_true, upd] at hu hy ⊢
    by_cases hc : c = k
    · rw [if_pos hc] at hu hy
      simp at hu hy
      subst hu; subst hy
      cases hp : s.ps k with
      | none => simp; omega
      | some p =>
        cases hw : s.wt k with
        | none => have := h.known e' k; rw [hp, hw] at this; cases this
        | some y =>
          have := h.pass e' k p y hp hw
          simp; omega
    · rw [if_neg hc] at hu hy
      exact h.pass e' c u y hu hy
  · have e' : s.kind = 3 := e
    have hne : ¬ s.kind = 2 := by omega
    simp only [setP, hne, if_false] at hu ⊢
    have := h.wait e' c u hu
    refine ⟨this.1, this.2.1, ?_⟩
    unfold upd
    by_cases hc : c = k
    · simp [hc]
    · rw [if_neg hc]; exact this.2.2
theorem admW_val {n : Nat} {s : Pl} (h : Okp n s) {R : List Int} {k u : Int} (hR : ∀ k ∈ R, 1 ≤ k ∧ k ≤ 9223372036854775807) (hu : admW s R k = some u) : 1 ≤ k ∧ k ≤ 9223372036854775807 ∧ 1 ≤ u ∧ u ≤ 8 := by
  unfold admW at hu
  by_cases hk : k ∈ R
  · rw [if_pos hk] at hu
    have := hR k hk
    cases hw : s.wt k with
    | none => rw [hw] at hu; simp at hu; omega
    | some y => rw [hw] at hu; simp at hu; have := h.wt k y hw; omega
  · rw [if_neg hk] at hu; exact h.wt k u hu
theorem admP_bd {n : Nat} {s : Pl} (h : Okp n s) (e : s.kind = 2) {R : List Int} {k v u : Int} (hv : admP s R k = some v) (hu : admW s R k = some u) : 0 ≤ v ∧ v ≤ s.last + stp u ∧ (k ∈ R → s.last ≤ v) := by
  have hl := h.last e
  have hk := h.known e k
  unfold admP at hv
  unfold admW at hu
  by_cases hm : k ∈ R
  · rw [if_pos hm] at hv hu
    cases hp : s.ps k with
    | none =>
      rw [hp] at hv hk
      cases hw : s.wt k with
      | none =>
        rw [hw] at hu
        simp at hu hv
        subst hu; subst hv
        have := stp_bd (v := 1) (by omega) (by omega)
        omega
      | some y => rw [hw] at hk; cases hk
    | some p =>
      rw [hp] at hv hk
      cases hw : s.wt k with
      | none => rw [hw] at hk; cases hk
      | some y =>
        rw [hw] at hu
        simp at hu hv
        subst hu; subst hv
        have h1 := h.pass e k p y hp hw
        have h2 := h.wt k y hw
        have := stp_bd h2.2.2.1 h2.2.2.2
        omega
  · rw [if_neg hm] at hv hu
    have := h.pass e k v u hv hu
    exact ⟨this.1, this.2, fun hc => absurd hc hm⟩
theorem adm_some {s : Pl} {R : List Int} {k : Int} (hk : k ∈ R) : admW s R k = some ((s.wt k).getD 1) ∧ admP s R k = some (max ((s.ps k).getD 0) s.last) := by
  unfold admW admP
  rw [if_pos hk, if_pos hk]
  exact ⟨rfl, rfl⟩
theorem adm_known {n : Nat} {s : Pl} (h : Okp n s) (e : s.kind = 2) (R : List Int) (k : Int) : (admP s R k).isSome = (admW s R k).isSome := by
  unfold admW admP
  by_cases hk : k ∈ R
  · rw [if_pos hk, if_pos hk]; rfl
  · rw [if_neg hk, if_neg hk]; exact h.known e k
theorem Okp.next {n : Nat} {s : Pl} (h : Okp n s) {R : List Int} (hR : ∀ k ∈ R, 1 ≤ k ∧ k ≤ 9223372036854775807) (hne : R ≠ []) : Okp (n + 1) (nextP s R) := by
  have hm := pick_mem (s := s) hne
  have hb := hR _ hm
  unfold nextP
  rcases h.kind with e | e | e
  · rw [if_pos e]
    exact ⟨.inl e, fun k u hu => admW_val h hR hu, fun e2 => by exfalso; have : s.kind = 2 := e2; omega, fun e2 => by exfalso; have : s.kind = 2 := e2; omega, fun e2 => by exfalso; have : s.kind = 2 := e2; omega, fun e2 => by exfalso; have : s.kind = 3 := e2; omega, fun _ => (show 0 ≤ pick s R ∧ pick s R ≤ 9223372036854775807 by omega)⟩
  · rw [if_neg (by omega), if_pos e]
    obtain ⟨hw, hp⟩ := adm_some (s := s) hm
    have ha := admW_val h hR hw
    have hd := admP_bd h e hp hw
    have hl := h.last e
    have hs := stp_bd ha.2.2.1 ha.2.2.2
    have hv : val (admP s R) (pick s R) = max ((s.ps (pick s R)).getD 0) s.last := by unfold val; rw [hp]; rfl
    have hvw : val (admW s R) (pick s R) = (s.wt (pick s R)).getD 1 := by unfold val; rw [hw]; rfl
    refine ⟨.inr (.inl e), fun k u hu => admW_val h hR hu, fun _ k => ?_, fun _ => ?_, fun _ k v u hv' hu => ?_, fun e2 => by exfalso; have : s.kind = 3 := e2; omega, fun e2 => by exfalso; have : s.kind = 1 := e2; omega⟩
    · show (upd _ _ _ k).isSome = (admW s R k).isSome
      unfold upd
      by_cases hk : k = pick s R
      · rw [if_pos hk, hk, hw]; rfl
      · rw [if_neg hk]; exact adm_known h e R k
    · show 0 ≤ val (admP s R) (pick s R) ∧ val (admP s R) (pick s R) ≤ 840 * ((n + 1 : Nat) : Int)
      rw [hv]
      omega
    · show 0 ≤ v ∧ v ≤ val (admP s R) (pick s R) + stp u
      have hu' : admW s R k = some u := hu
      have hv2 : upd (admP s R) (pick s R) (val (admP s R) (pick s R) + stp (val (admW s R) (pick s R))) k = some v := hv'
      unfold upd at hv2
      by_cases hk : k = pick s R
      · rw [if_pos hk] at hv2
        subst hk
        rw [hw] at hu'
        simp only [Option.some.injEq] at hv2 hu'
        rw [hvw, hu', hv] at hv2
        rw [hv]
        rw [hu'] at hs
        omega
      · rw [if_neg hk] at hv2
        have := admP_bd h e hv2 hu'
        rw [hv]
        have h5 := hd.2.2 hm
        omega
  · rw [if_neg (by omega), if_neg (by omega)]
    refine ⟨.inr (.inr e), fun k u hu => admW_val h hR hu, fun e2 => by exfalso; have : s.kind = 2 := e2; omega, fun e2 => by exfalso; have : s.kind = 2 := e2; omega, fun e2 => by exfalso; have : s.kind = 2 := e2; omega, fun _ k v hv => ?_, fun e2 => by exfalso; have : s.kind = 1 := e2; omega⟩
    have hv' : (if k ∈ R ∧ k ≠ pick s R then some (val s.ps k + 1) else none) = some v := hv
    by_cases hc : k ∈ R ∧ k ≠ pick s R
    · rw [if_pos hc] at hv'
      simp only [Option.some.injEq] at hv'
      obtain ⟨hw, _⟩ := adm_some (s := s) hc.1
      refine ⟨?_, ?_, by show (admW s R k).isSome = true; rw [hw]; rfl⟩
      · unfold val at hv'
        cases hp : s.ps k with
        | none => rw [hp] at hv'; simp at hv'; omega
        | some p => rw [hp] at hv'; simp at hv'; have := h.wait e k p hp; omega
      · unfold val at hv'
        cases hp : s.ps k with
        | none => rw [hp] at hv'; simp at hv'; omega
        | some p => rw [hp] at hv'; simp at hv'; have := h.wait e k p hp; omega
    · rw [if_neg hc] at hv'; cases hv'
end Go.Proofs.Ytngmnlmagbfijab
