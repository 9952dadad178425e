namespace Go.Proofs.Yteloomlcaimlaab

/-- in how many bytes, at most m, b from x on and b from y on agree -/
def agr (b : List Nat) : Nat → Nat → Nat → Nat
  | _, _, 0 => 0
  | x, y, m + 1 => if b.getD x 0 = b.getD y 0 then agr b (x + 1) (y + 1) m + 1 else 0
theorem agr_le (b : List Nat) : ∀ m x y, agr b x y m ≤ m
  | 0, _, _ => Nat.le_refl _
  | m + 1, x, y => by
    rw [agr]
    have := agr_le b m (x + 1) (y + 1)
    split <;> omega
theorem agr_at (b : List Nat) : ∀ m x y j, j < agr b x y m → b.getD (x + j) 0 = b.getD (y + j) 0
  | 0, _, _, _, h => by simp [agr] at h
  | m + 1, x, y, 0, h => by
    rw [agr] at h
    split at h
    · next e => simpa using e
    · omega
  | m + 1, x, y, j + 1, h => by
    rw [agr] at h
    split at h
    · have := agr_at b m (x + 1) (y + 1) j (by omega)
      rw [show x + (j + 1) = x + 1 + j by omega, show y + (j + 1) = y + 1 + j by omega]
      exact this
    · omega
theorem agr_no (b : List Nat) : ∀ m x y, agr b x y m < m → b.getD (x + agr b x y m) 0 ≠ b.getD (y + agr b x y m) 0
  | 0, _, _, h => by omega
  | m + 1, x, y, h => by
    rw [agr] at h ⊢
    split
    · next e =>
      rw [if_pos e] at h
      have := agr_no b m (x + 1) (y + 1) (by omega)
      rw [show x + (agr b (x + 1) (y + 1) m + 1) = x + 1 + agr b (x + 1) (y + 1) m by omega, show y + (agr b (x + 1) (y + 1) m + 1) = y + 1 + agr b (x + 1) (y + 1) m by omega]
      exact this
    · next e => simpa using e
theorem agr_ge (b : List Nat) {m x y n : Nat} (hn : n ≤ m) (h : ∀ j, j < n → b.getD (x + j) 0 = b.getD (y + j) 0) : n ≤ agr b x y m := by
  rcases Nat.lt_or_ge (agr b x y m) n with h1 | h1
  · exact absurd (h _ h1) (agr_no b m x y (by omega))
  · exact h1
theorem agr_uniq (b : List Nat) {m x y n : Nat} (hn : n ≤ m) (h : ∀ j, j < n → b.getD (x + j) 0 = b.getD (y + j) 0) (hs : n < m → b.getD (x + n) 0 ≠ b.getD (y + n) 0) : agr b x y m = n := by
  have h1 := agr_ge b hn h
  have h2 := agr_le b m x y
  rcases Nat.lt_or_ge n (agr b x y m) with h3 | h3
  · exact absurd (agr_at b m x y n h3) (hs (by omega))
  · omega
theorem agr_same {a b : List Nat} : ∀ m x y, (∀ j, j < m → a.getD (x + j) 0 = b.getD (x + j) 0 ∧ a.getD (y + j) 0 = b.getD (y + j) 0) → agr a x y m = agr b x y m
  | 0, _, _, _ => rfl
  | m + 1, x, y, h => by
    have h0 := h 0 (by omega)
    simp only [Nat.add_zero] at h0
    rw [agr, agr, h0.1, h0.2, agr_same m (x + 1) (y + 1) fun j hj => by
      have := h (j + 1) (by omega)
      rw [show x + (j + 1) = x + 1 + j by omega, show y + (j + 1) = y + 1 + j by omega] at this
      exact this]
/-- the most that a copy at i may have -/
def mst (b : List Nat) (i : Nat) : Nat := min 131 (b.length - i)
theorem mst_le (b : List Nat) (i : Nat) : mst b i ≤ 131 := Nat.min_le_left _ _
theorem mst_le2 (b : List Nat) (i : Nat) : mst b i ≤ b.length - i := Nat.min_le_right _ _
/-- the match at i of distance d -/
def mt (b : List Nat) (i d : Nat) : Nat := agr b (i - d) i (mst b i)
theorem mt_le (b : List Nat) (i d : Nat) : mt b i d ≤ mst b i := agr_le _ _ _ _
/-- the best match of the distances up to d -/
def bs (b : List Nat) (i : Nat) : Nat → Nat × Nat
  | 0 => (0, 0)
  | d + 1 => if (bs b i d).1 < mt b i (d + 1) then (mt b i (d + 1), d + 1) else bs b i d
/-- what a best match is -/
def Bst (b : List Nat) (i k l a : Nat) : Prop :=
  (∀ e, 1 ≤ e → e ≤ k → mt b i e ≤ l) ∧ ((l = 0 ∧ a = 0) ∨ (0 < l ∧ 1 ≤ a ∧ a ≤ k ∧ mt b i a = l ∧ ∀ e, 1 ≤ e → e < a → mt b i e < l))
theorem bs_spec (b : List Nat) (i : Nat) : ∀ k, Bst b i k (bs b i k).1 (bs b i k).2
  | 0 => ⟨fun e h1 h2 => by omega, .inl ⟨rfl, rfl⟩⟩
  | k + 1 => by
    have ih := bs_spec b i k
    rw [bs]
    split
    · next h =>
      refine ⟨fun e h1 h2 => ?_, .inr ⟨Nat.lt_of_le_of_lt (Nat.zero_le _) h, by simp, Nat.le_refl _, rfl, fun e h1 h2 => ?_⟩⟩
      · by_cases he : e = k + 1
        · subst he; exact Nat.le_refl _
        · have := ih.1 e h1 (by omega); simp only; omega
      · have := ih.1 e h1 (by simp only at h2; omega); simp only; omega
    · next h =>
      refine ⟨fun e h1 h2 => ?_, ?_⟩
      · by_cases he : e = k + 1
        · subst he; omega
        · exact ih.1 e h1 (by omega)
      · rcases ih.2 with h1 | ⟨h0, h1, h2, h3, h4⟩
        · exact .inl h1
        · exact .inr ⟨h0, h1, by omega, h3, h4⟩
/-- the best match of the distances up to d, if it is long enough for a copy -/
def cd (b : List Nat) (i d : Nat) : Nat × Nat := if 4 ≤ (bs b i d).1 then bs b i d else (0, 0)
theorem cd_zero (b : List Nat) (i : Nat) : cd b i 0 = (0, 0) := rfl
theorem cd_no {b : List Nat} {i d : Nat} (h : mt b i (d + 1) < 4 ∨ mt b i (d + 1) ≤ (cd b i d).1) : cd b i (d + 1) = cd b i d := by
  unfold cd at h ⊢
  rw [bs]
  by_cases h4 : 4 ≤ (bs b i d).1
  · rw [if_pos h4] at h
    have h6 : ¬ (bs b i d).1 < mt b i (d + 1) := by omega
    rw [if_neg h6]
  · rw [if_neg h4] at h
    simp only at h
    rw [if_neg h4]
    by_cases h5 : (bs b i d).1 < mt b i (d + 1)
    · rw [if_pos h5, if_neg (by simp only; omega)]
    · rw [if_neg h5, if_neg h4]
theorem cd_yes {b : List Nat} {i d : Nat} (h4 : 4 ≤ mt b i (d + 1)) (h : (cd b i d).1 < mt b i (d + 1)) : cd b i (d + 1) = (mt b i (d + 1), d + 1) := by
  unfold cd at h ⊢
  rw [bs]
  have h5 : (bs b i d).1 < mt b i (d + 1) := by
    split at h
    · exact h
    · omega
  rw [if_pos h5, if_pos h4]
/-- no match of four bytes between two distances -/
theorem cd_far {b : List Nat} {i d : Nat} : ∀ k, (∀ e, d < e → e ≤ d + k → mt b i e < 4) → cd b i (d + k) = cd b i d
  | 0, _ => rfl
  | k + 1, h => by
    rw [← Nat.add_assoc, cd_no (.inl (h (d + k + 1) (by omega) (by omega))), cd_far k fun e h1 h2 => h e h1 (by omega)]
/-- nothing is longer than the most -/
theorem cd_top {b : List Nat} {i d : Nat} (h : mst b i ≤ (cd b i d).1) : ∀ k, cd b i (d + k) = cd b i d
  | 0 => rfl
  | k + 1 => by
    rw [← Nat.add_assoc, cd_no (.inr ?_), cd_top h k]
    rw [cd_top h k]
    exact Nat.le_trans (mt_le _ _ _) h
/-- the copy that Pack lays down at i; (0, 0): none -/
def cp (b : List Nat) (i : Nat) : Nat × Nat := cd b i i
/-- what is said of it -/
def Cpy (b : List Nat) (i n d : Nat) : Prop :=
  (n = 0 ∧ d = 0 ∧ ∀ e, 1 ≤ e → e ≤ i → mt b i e < 4) ∨ (4 ≤ n ∧ 1 ≤ d ∧ d ≤ i ∧ mt b i d = n ∧ (∀ e, 1 ≤ e → e ≤ i → mt b i e ≤ n) ∧ ∀ e, 1 ≤ e → e < d → mt b i e < n)
theorem cp_spec (b : List Nat) (i : Nat) : Cpy b i (cp b i).1 (cp b i).2 := by
  have h := bs_spec b i i
  unfold cp cd
  split
  · next h4 =>
    rcases h.2 with h1 | ⟨h0, h1, h2, h3, h5⟩
    · omega
    · exact .inr ⟨h4, h1, h2, h3, h.1, h5⟩
  · next h4 => exact .inl ⟨rfl, rfl, fun e h1 h2 => by have := h.1 e h1 h2; omega⟩
theorem cp_uniq {b : List Nat} {i n d : Nat} (h : Cpy b i n d) : cp b i = (n, d) := by
  have hs := cp_spec b i
  generalize cp b i = r at hs
  obtain ⟨n', d'⟩ := r
  simp only at hs
  rcases h with ⟨rfl, rfl, h1⟩ | ⟨h4, h1, h2, h3, h5, h6⟩
  · rcases hs with ⟨rfl, rfl, _⟩ | ⟨g4, g1, g2, g3, _⟩
    · rfl
    · have := h1 d' g1 g2; omega
  · rcases hs with ⟨rfl, rfl, g⟩ | ⟨g4, g1, g2, g3, g5, g6⟩
    · have := g d h1 h2; omega
    · have e1 := h5 d' g1 g2
      have e2 := g5 d h1 h2
      obtain rfl : n' = n := by omega
      rcases Nat.lt_trichotomy d d' with h | h | h
      · have := g6 d h1 h; omega
      · rw [h]
      · have := h6 d' g1 h; omega
theorem cp_le (b : List Nat) (i : Nat) : (cp b i).1 ≤ mst b i := by
  rcases cp_spec b i with ⟨h, _⟩ | ⟨_, _, _, h, _⟩
  · omega
  · rw [← h]; exact mt_le _ _ _
theorem cp_four (b : List Nat) (i : Nat) (h : (cp b i).1 ≠ 0) : 4 ≤ (cp b i).1 ∧ 1 ≤ (cp b i).2 ∧ (cp b i).2 ≤ i := by
  rcases cp_spec b i with ⟨h1, _⟩ | ⟨h1, h2, h3, _⟩
  · exact absurd h1 h
  · exact ⟨h1, h2, h3⟩
theorem cp_none {b : List Nat} {i : Nat} (h : (cp b i).1 = 0) : cp b i = (0, 0) := by
  rcases cp_spec b i with ⟨h1, h2, _⟩ | ⟨h1, _⟩
  · exact Prod.ext h1 h2
  · omega
/-- a copy hangs on the bytes up to 131 behind its place alone -/
theorem cp_same {a b : List Nat} {i H : Nat} (ha : H ≤ a.length) (hb : H ≤ b.length) (hi : i + 131 ≤ H) (h : ∀ j, j < H → a.getD j 0 = b.getD j 0) : cp a i = cp b i := by
  have hm : ∀ e, 1 ≤ e → e ≤ i → mt a i e = mt b i e := by
    intro e h1 h2
    unfold mt
    have e1 : mst a i = 131 := by unfold mst; omega
    have e2 : mst b i = 131 := by unfold mst; omega
    rw [e1, e2]
    exact agr_same _ _ _ fun j hj => ⟨h _ (by omega), h _ (by omega)⟩
  have hs := cp_spec b i
  generalize cp b i = r at *
  obtain ⟨n, d⟩ := r
  simp only at hs
  apply cp_uniq
  rcases hs with ⟨h1, h2, h3⟩ | ⟨h1, h2, h3, h4, h5, h6⟩
  · exact .inl ⟨h1, h2, fun e g1 g2 => by rw [hm e g1 g2]; exact h3 e g1 g2⟩
  · exact .inr ⟨h1, h2, h3, by rw [hm _ h2 h3]; exact h4, fun e g1 g2 => by rw [hm e g1 g2]; exact h5 e g1 g2, fun e g1 g2 => by rw [hm e g1 (by omega)]; exact h6 e g1 g2⟩

/-- plain bytes in runs of 128 -/
def chF : Nat → List Nat → List (List Nat)
  | 0, _ => []
  | k + 1, l => if l = [] then [] else l.take 128 :: chF k (l.drop 128)
theorem chF_more : ∀ (k : Nat) (l : List Nat), l.length ≤ k → chF k l = chF l.length l
  | 0, l, h => by rw [show l.length = 0 by omega]
  | k + 1, l, h => by
    by_cases hl : l = []
    · subst hl; rfl
    · have hp : 0 < l.length := List.length_pos_iff.2 hl
      obtain ⟨m, hm⟩ : ∃ m, l.length = m + 1 := ⟨l.length - 1, by omega⟩
      rw [chF, if_neg hl, hm, chF, if_neg hl, chF_more k (l.drop 128) (by simp; omega), chF_more m (l.drop 128) (by simp; omega)]
def chk (l : List Nat) : List (List Nat) := chF l.length l
theorem chk_nil : chk [] = [] := rfl
theorem chk_cons {l : List Nat} (hl : l ≠ []) : chk l = l.take 128 :: chk (l.drop 128) := by
  have hp : 0 < l.length := List.length_pos_iff.2 hl
  obtain ⟨m, hm⟩ : ∃ m, l.length = m + 1 := ⟨l.length - 1, by omega⟩
  unfold chk
  rw [hm, chF, if_neg hl, chF_more m (l.drop 128) (by simp; omega)]
theorem chk_one {l : List Nat} (hl : l ≠ []) (h : l.length ≤ 128) : chk l = [l] := by
  rw [chk_cons hl, List.take_of_length_le h, List.drop_of_length_le h, chk_nil]

/-- a token: a plain run, or a copy's length and distance -/
abbrev Tok := List Nat ⊕ (Nat × Nat)
def enc : Tok → List Nat
  | .inl r => (r.length - 1) :: r
  | .inr c => [124 + c.1, (c.2 - 1) % 256, (c.2 - 1) / 256 % 256]
def encs (ts : List Tok) : List Nat := ts.flatMap enc
theorem encs_nil : encs [] = [] := rfl
theorem encs_cons (t : Tok) (ts : List Tok) : encs (t :: ts) = enc t ++ encs ts := rfl
theorem encs_app (ts us : List Tok) : encs (ts ++ us) = encs ts ++ encs us := by simp [encs]
/-- the tokens of plain bytes -/
def rns (l : List Nat) : List Tok := (chk l).map .inl
theorem rns_nil : rns [] = [] := rfl
theorem rns_cons {l : List Nat} (hl : l ≠ []) : rns l = .inl (l.take 128) :: rns (l.drop 128) := by
  unfold rns; rw [chk_cons hl]; rfl
theorem rns_one {l : List Nat} (hl : l ≠ []) (h : l.length ≤ 128) : rns l = [.inl l] := by
  unfold rns; rw [chk_one hl h]; rfl
/-- the bytes between two places -/
def cut (b : List Nat) (op i : Nat) : List Nat := (b.take i).drop op
theorem cut_len {b : List Nat} {op i : Nat} (h : op ≤ i) (hi : i ≤ b.length) : (cut b op i).length = i - op := by
  simp [cut]; omega
/-- the tokens from i on, where a plain run is open since op -/
def tkF (b : List Nat) : Nat → Nat → Nat → List Tok
  | 0, _, op => rns (b.drop op)
  | k + 1, i, op => if b.length ≤ i then rns (b.drop op) else if (cp b i).1 = 0 then tkF b k (i + 1) op else rns (cut b op i) ++ .inr (cp b i) :: tkF b k (i + (cp b i).1) (i + (cp b i).1)
theorem tkF_more (b : List Nat) : ∀ k i op, b.length ≤ i + k → tkF b k i op = tkF b (b.length - i) i op
  | 0, i, op, h => by rw [show b.length - i = 0 by omega]
  | k + 1, i, op, h => by
    by_cases hi : b.length ≤ i
    · have e : b.length - i = 0 := by omega
      rw [e]
      show (if b.length ≤ i then _ else _) = rns (b.drop op)
      rw [if_pos hi]
    · obtain ⟨m, hm⟩ : ∃ m, b.length - i = m + 1 := ⟨b.length - i - 1, by omega⟩
      rw [hm, tkF, tkF, if_neg hi, if_neg hi]
      split
      · rw [tkF_more b k (i + 1) op (by omega), tkF_more b m (i + 1) op (by omega)]
      · next h0 =>
        have := (cp_four b i h0).1
        rw [tkF_more b k (i + (cp b i).1) _ (by omega), tkF_more b m (i + (cp b i).1) _ (by omega)]
def tks (b : List Nat) (i op : Nat) : List Tok := tkF b (b.length - i) i op
theorem tks_end {b : List Nat} {i : Nat} (op : Nat) (h : b.length ≤ i) : tks b i op = rns (b.drop op) := by
  unfold tks
  rw [show b.length - i = 0 by omega, tkF]
theorem tks_one {b : List Nat} {i : Nat} (op : Nat) (h : i < b.length) (h0 : (cp b i).1 = 0) : tks b i op = tks b (i + 1) op := by
  unfold tks
  obtain ⟨m, hm⟩ : ∃ m, b.length - i = m + 1 := ⟨b.length - i - 1, by omega⟩
  rw [hm, tkF, if_neg (by omega), if_pos h0, tkF_more b m (i + 1) op (by omega)]
theorem tks_copy {b : List Nat} {i : Nat} (op : Nat) (h : i < b.length) (h0 : (cp b i).1 ≠ 0) : tks b i op = rns (cut b op i) ++ .inr (cp b i) :: tks b (i + (cp b i).1) (i + (cp b i).1) := by
  unfold tks
  obtain ⟨m, hm⟩ : ∃ m, b.length - i = m + 1 := ⟨b.length - i - 1, by omega⟩
  have := (cp_four b i h0).1
  rw [hm, tkF, if_neg (by omega), if_neg h0, tkF_more b m (i + (cp b i).1) _ (by omega)]
theorem cut_full {b : List Nat} {op i : Nat} (h : op + 128 ≤ i) (hi : i ≤ b.length) : rns (cut b op i) = .inl ((b.drop op).take 128) :: rns (cut b (op + 128) i) := by
  have hl := cut_len (b := b) (op := op) (i := i) (by omega) hi
  rw [rns_cons (by intro e; rw [e] at hl; simp at hl; omega)]
  congr 2
  · unfold cut
    rw [List.drop_take, List.take_take, Nat.min_eq_left (by omega)]
  · unfold cut
    rw [List.drop_drop]
/-- a run of 128 bytes that is open is a token -/
theorem tkF_full (b : List Nat) : ∀ k i op, op + 128 ≤ i → i ≤ b.length → tkF b k i op = .inl ((b.drop op).take 128) :: tkF b k i (op + 128) := by
  have hend : ∀ op, op + 128 ≤ b.length → rns (b.drop op) = .inl ((b.drop op).take 128) :: rns (b.drop (op + 128)) := fun op h => by
    have := cut_full (b := b) (op := op) (i := b.length) h (Nat.le_refl _)
    unfold cut at this
    rwa [List.take_length] at this
  intro k
  induction k with
  | zero => intro i op h hi; rw [tkF, tkF]; exact hend op (by omega)
  | succ k ih =>
    intro i op h hi
    rw [tkF, tkF]
    split
    · exact hend op (by omega)
    · next hlt =>
      split
      · exact ih _ _ (by omega) (by omega)
      · rw [cut_full h hi]; rfl
theorem tks_full {b : List Nat} {i op : Nat} (h : op + 128 ≤ i) (hi : i ≤ b.length) : tks b i op = .inl ((b.drop op).take 128) :: tks b i (op + 128) := tkF_full b _ _ _ h hi
/-- a length, four bytes -/
def hd (n : Nat) : List Nat := [n % 256, n / 256 % 256, n / 65536 % 256, n / 16777216 % 256]
/-- the packed text -/
def pkd (b : List Nat) : List Nat := hd b.length ++ encs (tks b 0 0)
end Go.Proofs.Yteloomlcaimlaab
