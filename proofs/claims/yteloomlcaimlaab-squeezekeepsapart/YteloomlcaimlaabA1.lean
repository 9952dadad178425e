import Derived.Test.YteloomlcaimlaabA0
namespace Go.Proofs.Yteloomlcaimlaab

/-- tokens that say b from i on, as Pack lays them; o: the bytes of the plain run just before -/
def Gr (b : List Nat) : Nat → Nat → List Tok → Prop
  | i, _, [] => i = b.length
  | i, o, .inl r :: ts => r ≠ [] ∧ r.length ≤ 128 ∧ ¬ (0 < o ∧ o < 128) ∧ i + r.length ≤ b.length ∧ r = cut b i (i + r.length) ∧ (∀ j, j < r.length → (cp b (i + j)).1 = 0) ∧ Gr b (i + r.length) r.length ts
  | i, _, .inr c :: ts => i < b.length ∧ cp b i = c ∧ c.1 ≠ 0 ∧ Gr b (i + c.1) 0 ts
theorem cut_take {b : List Nat} {op i k : Nat} (h : op + k ≤ i) : (cut b op i).take k = cut b op (op + k) := by
  unfold cut
  rw [List.take_drop, List.take_take]
  congr 2
  omega
theorem cut_drop {b : List Nat} {op i k : Nat} : (cut b op i).drop k = cut b (op + k) i := by
  unfold cut
  rw [List.drop_drop]
theorem gr_runs (b : List Nat) (ts : List Tok) : ∀ (n : Nat) (op e o : Nat), e - op ≤ n → op ≤ e → e ≤ b.length → (∀ j, op ≤ j → j < e → (cp b j).1 = 0) → ¬ (0 < o ∧ o < 128) → (∀ o', Gr b e o' ts) → Gr b op o (rns (cut b op e) ++ ts) := by
  intro n
  induction n with
  | zero =>
    intro op e o hn h1 h2 _ _ ht
    obtain rfl : op = e := by omega
    have : cut b op op = [] := by apply List.eq_nil_of_length_eq_zero; rw [cut_len (Nat.le_refl _) h2]; omega
    rw [this, rns_nil]
    exact ht o
  | succ n ih =>
    intro op e o hn h1 h2 hc ho ht
    have hl := cut_len (b := b) h1 h2
    by_cases he : op = e
    · subst he
      have : cut b op op = [] := by apply List.eq_nil_of_length_eq_zero; rw [hl]; omega
      rw [this, rns_nil]
      exact ht o
    · have hne : cut b op e ≠ [] := by intro e1; rw [e1] at hl; simp at hl; omega
      by_cases h128 : e - op ≤ 128
      · rw [rns_one hne (by omega)]
        refine ⟨hne, by omega, ho, by omega, by rw [hl, show op + (e - op) = e by omega], fun j hj => hc _ (by omega) (by omega), ?_⟩
        rw [hl, show op + (e - op) = e by omega]
        exact ht _
      · rw [rns_cons hne, cut_take (by omega), cut_drop]
        have hl2 := cut_len (b := b) (op := op) (i := op + 128) (by omega) (by omega)
        have e128 : op + 128 - op = 128 := by omega
        rw [e128] at hl2
        refine ⟨by intro e1; rw [e1] at hl2; simp at hl2, by omega, ho, by omega, by rw [hl2], fun j hj => hc _ (by omega) (by omega), ?_⟩
        rw [hl2]
        exact ih (op + 128) e 128 (by omega) (by omega) h2 (fun j g1 g2 => hc j (by omega) g2) (by omega) ht
theorem cut_all (b : List Nat) (op : Nat) : b.drop op = cut b op b.length := by
  unfold cut; rw [List.take_length]
theorem gr_tkF (b : List Nat) : ∀ (k i op o : Nat), b.length ≤ i + k → op ≤ i → i ≤ b.length → (∀ j, op ≤ j → j < i → (cp b j).1 = 0) → ¬ (0 < o ∧ o < 128) → Gr b op o (tkF b k i op) := by
  intro k
  induction k with
  | zero =>
    intro i op o hk h1 h2 hc ho
    obtain rfl : i = b.length := by omega
    have := gr_runs b [] _ op b.length o (Nat.le_refl _) h1 (Nat.le_refl _) hc ho (fun _ => rfl)
    rw [tkF, cut_all]
    simpa using this
  | succ k ih =>
    intro i op o hk h1 h2 hc ho
    rw [tkF]
    by_cases hi : b.length ≤ i
    · rw [if_pos hi]
      obtain rfl : i = b.length := by omega
      have := gr_runs b [] _ op b.length o (Nat.le_refl _) h1 (Nat.le_refl _) hc ho (fun _ => rfl)
      rw [cut_all]
      simpa using this
    · rw [if_neg hi]
      by_cases h0 : (cp b i).1 = 0
      · rw [if_pos h0]
        refine ih (i + 1) op o (by omega) (by omega) (by omega) (fun j g1 g2 => ?_) ho
        by_cases hj : j = i
        · rw [hj]; exact h0
        · exact hc j g1 (by omega)
      · rw [if_neg h0]
        have h4 := (cp_four b i h0).1
        have hm := cp_le b i
        have hm2 := mst_le2 b i
        exact gr_runs b _ _ op i o (Nat.le_refl _) h1 h2 hc ho fun o' => ⟨by omega, rfl, h0, ih _ _ 0 (by omega) (Nat.le_refl _) (by omega) (fun j g1 g2 => by omega) (by omega)⟩
theorem gr_all (b : List Nat) : Gr b 0 0 (tks b 0 0) := gr_tkF b _ 0 0 0 (by omega) (Nat.le_refl _) (Nat.zero_le _) (fun j _ h => by omega) (by omega)
/-- how long the tokens are -/
theorem gr_len {b : List Nat} : ∀ {ts : List Tok} {i o : Nat}, Gr b i o ts → i ≤ b.length → (encs ts).length + (if 0 < o ∧ o < 128 ∧ ts ≠ [] then 1 else 0) ≤ (b.length - i) + (b.length - i + 127) / 128
  | [], i, o, h, hi => by
    simp [encs]
  | .inl r :: ts, i, o, h, hi => by
    obtain ⟨h1, h2, h3, h4, _, _, h5⟩ := h
    have ih := gr_len h5 h4
    have hp : 0 < r.length := List.length_pos_iff.2 h1
    rw [if_neg (by omega), encs_cons, List.length_append]
    simp only [enc, List.length_cons]
    by_cases hr : r.length = 128
    · rw [if_neg (by omega)] at ih
      omega
    · by_cases ht : ts = []
      · subst ht
        have h5 : i + r.length = b.length := h5
        simp [encs]
        omega
      · rw [if_pos ⟨hp, by omega, ht⟩] at ih
        omega
  | .inr c :: ts, i, o, h, hi => by
    obtain ⟨h1, h2, h3, h4⟩ := h
    have hm := cp_le b i
    have hm2 := mst_le2 b i
    have h5 := (cp_four b i (by rw [h2]; exact h3)).1
    rw [h2] at hm h5
    have ih := gr_len h4 (by omega)
    rw [if_neg (by omega)] at ih
    rw [encs_cons, List.length_append]
    simp only [enc, List.length_cons, List.length_nil]
    split <;> omega

/-- the first token: the bytes it takes and makes, its distance -/
def tkn (p : List Nat) : Option (Nat × Nat × Nat) :=
  if p.getD 0 0 < 128 then (if p.getD 0 0 + 2 ≤ p.length then some (p.getD 0 0 + 2, p.getD 0 0 + 1, 0) else none)
  else if p.length < 3 then none else some (3, p.getD 0 0 - 124, p.getD 1 0 + 256 * p.getD 2 0 + 1)
def cpy : List Nat → Nat → Nat → List Nat
  | pl, _, 0 => pl
  | pl, d, k + 1 => cpy (pl ++ [pl.getD (pl.length - d) 0]) d k
def jn (pl p : List Nat) (x : Nat × Nat × Nat) : List Nat := if x.2.2 = 0 then pl ++ cut p 1 x.1 else cpy pl x.2.2 x.2.1
/-- what tokens make: the error, the plain bytes, how many they are -/
def dcF (n : Nat) : Nat → List Nat → List Nat → Nat → Nat × List Nat × Nat
  | 0, _, pl, t => (0, pl, t)
  | k + 1, p, pl, t => if p = [] then (0, pl, t) else match tkn p with
    | none => (20, [], 0)
    | some x => if pl.length < x.2.2 ∨ n - pl.length < x.2.1 then (200, [], 0) else dcF n k (p.drop x.1) (jn pl p x) (t + 1)
theorem tkn_two {p : List Nat} {x : Nat × Nat × Nat} (h : tkn p = some x) : 2 ≤ x.1 ∧ x.1 ≤ p.length ∧ 1 ≤ x.2.1 ∧ x.2.1 ≤ 131 + p.getD 0 0 ∧ (x.2.2 = 0 → x.1 = x.2.1 + 1) := by
  unfold tkn at h
  split at h
  · split at h
    · cases h; refine ⟨by simp, by assumption, by simp, by simp; omega, by simp⟩
    · cases h
  · split at h
    · cases h
    · cases h; refine ⟨by simp, by simp only; omega, by simp only; omega, by simp only; omega, by simp⟩
theorem dcF_more (n : Nat) : ∀ (k : Nat) (p pl : List Nat) (t : Nat), p.length ≤ k → dcF n k p pl t = dcF n p.length p pl t
  | 0, p, pl, t, h => by rw [show p.length = 0 by omega]
  | k + 1, p, pl, t, h => by
    by_cases hp : p = []
    · subst hp; rfl
    · have h0 : 0 < p.length := List.length_pos_iff.2 hp
      obtain ⟨m, hm⟩ : ∃ m, p.length = m + 1 := ⟨p.length - 1, by omega⟩
      rw [hm, dcF, dcF, if_neg hp, if_neg hp]
      cases ht : tkn p with
      | none => rfl
      | some x =>
        have := tkn_two ht
        simp only
        split
        · rfl
        · rw [dcF_more n k _ _ _ (by simp; omega), dcF_more n m _ _ _ (by simp; omega)]
def dc (n : Nat) (p pl : List Nat) (t : Nat) : Nat × List Nat × Nat := dcF n p.length p pl t
theorem dc_nil (n : Nat) (pl : List Nat) (t : Nat) : dc n [] pl t = (0, pl, t) := rfl
theorem dc_short {n : Nat} {p pl : List Nat} {t : Nat} (hp : p ≠ []) (h : tkn p = none) : dc n p pl t = (20, [], 0) := by
  have h0 : 0 < p.length := List.length_pos_iff.2 hp
  obtain ⟨m, hm⟩ : ∃ m, p.length = m + 1 := ⟨p.length - 1, by omega⟩
  unfold dc
  rw [hm, dcF, if_neg hp, h]
theorem dc_bad {n : Nat} {p pl : List Nat} {t : Nat} {x : Nat × Nat × Nat} (hp : p ≠ []) (h : tkn p = some x) (hb : pl.length < x.2.2 ∨ n - pl.length < x.2.1) : dc n p pl t = (200, [], 0) := by
  have h0 : 0 < p.length := List.length_pos_iff.2 hp
  obtain ⟨m, hm⟩ : ∃ m, p.length = m + 1 := ⟨p.length - 1, by omega⟩
  unfold dc
  rw [hm, dcF, if_neg hp, h]
  simp only
  rw [if_pos hb]
theorem dc_step {n : Nat} {p pl : List Nat} {t : Nat} {x : Nat × Nat × Nat} (hp : p ≠ []) (h : tkn p = some x) (hb : ¬ (pl.length < x.2.2 ∨ n - pl.length < x.2.1)) : dc n p pl t = dc n (p.drop x.1) (jn pl p x) (t + 1) := by
  have h0 : 0 < p.length := List.length_pos_iff.2 hp
  obtain ⟨m, hm⟩ : ∃ m, p.length = m + 1 := ⟨p.length - 1, by omega⟩
  have := tkn_two h
  unfold dc
  rw [hm, dcF, if_neg hp, h]
  simp only
  rw [if_neg hb, dcF_more n m _ _ _ (by simp; omega)]
theorem cpy_len : ∀ (k : Nat) (pl : List Nat) (d : Nat), (cpy pl d k).length = pl.length + k
  | 0, _, _ => rfl
  | k + 1, pl, d => by rw [cpy, cpy_len k]; simp; omega
theorem jn_len {pl p : List Nat} {x : Nat × Nat × Nat} (h : tkn p = some x) : (jn pl p x).length = pl.length + x.2.1 := by
  have := tkn_two h
  unfold jn
  split
  · next h0 =>
    rw [List.length_append, cut_len (by omega) (by omega)]
    have := this.2.2.2.2 h0
    omega
  · exact cpy_len _ _ _
theorem cpy_byte : ∀ (k : Nat) (pl : List Nat) (d : Nat), (∀ c ∈ pl, c < 256) → ∀ c ∈ cpy pl d k, c < 256
  | 0, _, _, h => h
  | k + 1, pl, d, h => by
    rw [cpy]
    refine cpy_byte k _ d fun c hc => ?_
    simp only [List.mem_append, List.mem_singleton] at hc
    rcases hc with hc | rfl
    · exact h c hc
    · rw [List.getD_eq_getElem?_getD]
      cases e : pl[pl.length - d]? with
      | none => simp
      | some c => exact h c (List.mem_of_getElem? e)
theorem jn_byte {pl p : List Nat} {x : Nat × Nat × Nat} (h : ∀ c ∈ pl, c < 256) (hp : ∀ c ∈ p, c < 256) : ∀ c ∈ jn pl p x, c < 256 := by
  unfold jn
  split
  · intro c hc
    simp only [List.mem_append] at hc
    rcases hc with hc | hc
    · exact h c hc
    · exact hp c (List.mem_of_mem_take (List.mem_of_mem_drop hc))
  · exact cpy_byte _ _ _ h
/-- what comes out: at most n bytes -/
theorem dcF_fits (n : Nat) : ∀ (k : Nat) (p pl : List Nat) (t : Nat), pl.length ≤ n → (∀ c ∈ pl, c < 256) → (∀ c ∈ p, c < 256) → (dcF n k p pl t).2.1.length ≤ n ∧ ∀ c ∈ (dcF n k p pl t).2.1, c < 256
  | 0, _, pl, _, h, hb, _ => ⟨h, hb⟩
  | k + 1, p, pl, t, h, hb, hp => by
    rw [dcF]
    split
    · exact ⟨h, hb⟩
    · cases ht : tkn p with
      | none => simp
      | some x =>
        simp only
        split
        · simp
        · next hn => exact dcF_fits n k _ _ _ (by rw [jn_len ht]; omega) (jn_byte hb hp) fun c hc => hp c (List.mem_of_mem_drop hc)
theorem get_app (a b : List Nat) (j : Nat) : (a ++ b).getD (a.length + j) 0 = b.getD j 0 := by
  simp [List.getD_eq_getElem?_getD, List.getElem?_append_right]
theorem tkn_run {r : List Nat} (hr : r ≠ []) (h : r.length ≤ 128) (rest : List Nat) : tkn (enc (.inl r) ++ rest) = some (r.length + 1, r.length, 0) := by
  have hp : 0 < r.length := List.length_pos_iff.2 hr
  unfold tkn
  have e : (enc (.inl r) ++ rest).getD 0 0 = r.length - 1 := rfl
  rw [e, if_pos (by omega), if_pos (by simp [enc]; omega)]
  simp
  omega
theorem tkn_copy {c : Nat × Nat} (h4 : 4 ≤ c.1) (h : c.1 ≤ 131) (h1 : 1 ≤ c.2) (h2 : c.2 ≤ 65536) (rest : List Nat) : tkn (enc (.inr c) ++ rest) = some (3, c.1, c.2) := by
  unfold tkn
  have e0 : (enc (.inr c) ++ rest).getD 0 0 = 124 + c.1 := rfl
  have e1 : (enc (.inr c) ++ rest).getD 1 0 = (c.2 - 1) % 256 := rfl
  have e2 : (enc (.inr c) ++ rest).getD 2 0 = (c.2 - 1) / 256 % 256 := rfl
  rw [e0, e1, e2, if_neg (by omega), if_neg (by simp [enc])]
  have e3 : 124 + c.1 - 124 = c.1 := by omega
  have e4 : (c.2 - 1) % 256 + 256 * ((c.2 - 1) / 256 % 256) + 1 = c.2 := by omega
  rw [e3, e4]
theorem cpy_take {b : List Nat} : ∀ (m i d : Nat), 1 ≤ d → d ≤ i → i + m ≤ b.length → (∀ j, j < m → b.getD (i - d + j) 0 = b.getD (i + j) 0) → cpy (b.take i) d m = b.take (i + m)
  | 0, _, _, _, _, _, _ => rfl
  | m + 1, i, d, h1, h2, h3, h => by
    have e : b.take i ++ [(b.take i).getD ((b.take i).length - d) 0] = b.take (i + 1) := by
      have h0 := h 0 (by omega)
      simp only [Nat.add_zero] at h0
      rw [List.length_take, Nat.min_eq_left (by omega)]
      have e1 : (b.take i).getD (i - d) 0 = b.getD (i - d) 0 := by
        simp [List.getD_eq_getElem?_getD, show i - d < i by omega]
      rw [e1, h0, List.take_add_one, List.getD_eq_getElem?_getD, List.getElem?_eq_getElem (show i < b.length by omega)]
      simp
    rw [cpy, e, cpy_take m (i + 1) d h1 (by omega) (by omega) fun j hj => ?_, show i + 1 + m = i + (m + 1) by omega]
    have := h (j + 1) (by omega)
    rw [show i - d + (j + 1) = i + 1 - d + j by omega, show i + (j + 1) = i + 1 + j by omega] at this
    exact this
/-- what is packed unfolds again -/
theorem dc_gr {b : List Nat} (hb : b.length ≤ 65536) : ∀ {ts : List Tok} {i o t : Nat}, Gr b i o ts → i ≤ b.length → dc b.length (encs ts) (b.take i) t = (0, b, t + ts.length)
  | [], i, o, t, h, hi => by
    have h : i = b.length := h
    subst h
    rw [encs_nil, dc_nil, List.take_length]
    rfl
  | .inl r :: ts, i, o, t, h, hi => by
    obtain ⟨h1, h2, h3, h4, h5, _, h6⟩ := h
    have hp : 0 < r.length := List.length_pos_iff.2 h1
    rw [encs_cons, dc_step (by simp [enc]) (tkn_run h1 h2 _) (by simp; omega)]
    have e1 : (enc (.inl r) ++ encs ts).drop (r.length + 1) = encs ts := by simp [enc]
    have e2 : jn (b.take i) (enc (.inl r) ++ encs ts) (r.length + 1, r.length, 0) = b.take (i + r.length) := by
      unfold jn
      rw [if_pos rfl]
      have e3 : cut (enc (.inl r) ++ encs ts) 1 (r.length + 1) = r := by simp [cut, enc]
      rw [e3]
      conv => lhs; rw [h5]
      unfold cut
      rw [show b.take i = (b.take (i + r.length)).take i by rw [List.take_take, Nat.min_eq_left (by omega)], List.take_append_drop]
    simp only [e1, e2]
    rw [dc_gr hb h6 h4]
    simp
    omega
  | .inr c :: ts, i, o, t, h, hi => by
    obtain ⟨h1, h2, h3, h4⟩ := h
    have hm := cp_le b i
    have hm1 := mst_le b i
    have hm2 := mst_le2 b i
    obtain ⟨g1, g2, g3⟩ := cp_four b i (by rw [h2]; exact h3)
    have hs := cp_spec b i
    rw [h2] at hm g1 g2 g3 hs
    rcases hs with ⟨e, _⟩ | ⟨_, _, _, hmt, _⟩
    · omega
    rw [encs_cons, dc_step (by simp [enc]) (tkn_copy g1 (by omega) g2 (by omega) _) (by show ¬ ((b.take i).length < c.2 ∨ b.length - (b.take i).length < c.1); rw [List.length_take]; omega)]
    have e1 : (enc (.inr c) ++ encs ts).drop 3 = encs ts := by simp [enc]
    have e2 : jn (b.take i) (enc (.inr c) ++ encs ts) (3, c.1, c.2) = b.take (i + c.1) := by
      unfold jn
      rw [if_neg (by simp only; omega)]
      show cpy (b.take i) c.2 c.1 = _
      refine cpy_take _ _ _ g2 g3 (by omega) fun j hj => ?_
      rw [← hmt] at hj
      exact agr_at _ _ _ _ _ hj
    simp only [e1, e2]
    rw [dc_gr hb h4 (by omega)]
    simp
    omega
/-- four bytes as a number -/
def four (p : List Nat) : Nat := p.getD 0 0 + 256 * p.getD 1 0 + 65536 * p.getD 2 0 + 16777216 * p.getD 3 0
/-- Unpack: the error, the plain bytes, how many tokens -/
def un (p : List Nat) : Nat × List Nat × Nat :=
  if p.length < 4 then (20, [], 0) else if 65536 < four p then (200, [], 0) else
  if (dc (four p) (p.drop 4) [] 0).1 ≠ 0 then ((dc (four p) (p.drop 4) [] 0).1, [], 0) else
  if (dc (four p) (p.drop 4) [] 0).2.1.length < four p ∨ pkd (dc (four p) (p.drop 4) [] 0).2.1 ≠ p then (200, [], 0) else dc (four p) (p.drop 4) [] 0
theorem un_pkd {b : List Nat} (hb : b.length ≤ 65536) : un (pkd b) = (0, b, (tks b 0 0).length) := by
  have e0 : (pkd b).drop 4 = encs (tks b 0 0) := rfl
  have e1 : four (pkd b) = b.length := by
    show b.length % 256 + 256 * (b.length / 256 % 256) + 65536 * (b.length / 65536 % 256) + 16777216 * (b.length / 16777216 % 256) = b.length
    omega
  have e2 : dc b.length (encs (tks b 0 0)) [] 0 = (0, b, (tks b 0 0).length) := by
    have := dc_gr hb (t := 0) (gr_all b) (Nat.zero_le _)
    simpa using this
  unfold un
  rw [e0, e1, e2, if_neg (by simp [pkd, hd]), if_neg (by omega), if_neg (by simp), if_neg (by simp)]
theorem un_ok {p : List Nat} (h : (un p).1 = 0) : pkd (un p).2.1 = p ∧ (un p).2.1.length ≤ 65536 := by
  unfold un at h ⊢
  split
  · next h1 => rw [if_pos h1] at h; simp at h
  next h1 =>
  rw [if_neg h1] at h
  split
  · next h2 => rw [if_pos h2] at h; simp at h
  next h2 =>
  rw [if_neg h2] at h
  split
  · next h3 => rw [if_pos h3] at h; exact absurd h h3
  next h3 =>
  rw [if_neg h3] at h
  split
  · next h4 => rw [if_pos h4] at h; simp at h
  next h4 =>
  refine ⟨Decidable.of_not_not fun hc => h4 (.inr hc), ?_⟩
  have h5 : ∀ (k : Nat) (p pl : List Nat) (t n : Nat), pl.length ≤ n → (dcF n k p pl t).2.1.length ≤ n := by
    intro k
    induction k with
    | zero => intro p pl t n h; exact h
    | succ k ih =>
      intro p pl t n h
      rw [dcF]
      split
      · exact h
      · cases ht : tkn p with
        | none => simp
        | some x =>
          simp only
          split
          · simp
          · next hn => exact ih _ _ _ _ (by rw [jn_len ht]; omega)
  exact Nat.le_trans (h5 _ _ _ _ _ (Nat.zero_le _)) (by omega)
theorem un_bad {p : List Nat} (h : (un p).1 ≠ 0) : (un p).2 = ([], 0) := by
  unfold un at h ⊢
  split
  · rfl
  next h1 =>
  rw [if_neg h1] at h
  split
  · rfl
  next h2 =>
  rw [if_neg h2] at h
  split
  · rfl
  next h3 =>
  rw [if_neg h3] at h
  split
  · rfl
  next h4 =>
  rw [if_neg h4] at h
  exact absurd h h3
end Go.Proofs.Yteloomlcaimlaab
