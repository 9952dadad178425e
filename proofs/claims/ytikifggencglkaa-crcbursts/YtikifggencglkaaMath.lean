namespace Go.Proofs.Ytikifggencglkaa.M

/-- a sum past one zero bit -/
def fb (s : Nat) : Nat := if s % 2 = 1 then (s / 2) ^^^ 3988292384 else s / 2
theorem fb_odd {s : Nat} (h : s % 2 = 1) : fb s = (s / 2) ^^^ 3988292384 := by simp [fb, h]
theorem fb_even {s : Nat} (h : ¬ s % 2 = 1) : fb s = s / 2 := by simp [fb, h]
theorem fb_lt {s : Nat} (h : s < 4294967296) : fb s < 4294967296 := by
  unfold fb
  split
  · exact Nat.xor_lt_two_pow (n := 32) (by omega) (by omega)
  · omega
theorem xor_half (a b : Nat) : (a ^^^ b) / 2 = (a / 2) ^^^ (b / 2) := by
  have := Nat.shiftRight_xor_distrib (a := a) (b := b) (i := 1)
  simpa [Nat.shiftRight_eq_div_pow] using this
theorem xor_odd (a b : Nat) : (a ^^^ b) % 2 = (a % 2 + b % 2) % 2 := by
  have h := Nat.testBit_xor a b 0
  simp only [Nat.testBit_zero] at h
  have ha := Nat.mod_two_eq_zero_or_one a
  have hb := Nat.mod_two_eq_zero_or_one b
  have hx := Nat.mod_two_eq_zero_or_one (a ^^^ b)
  rcases ha with ha | ha <;> rcases hb with hb | hb <;> rcases hx with hx | hx <;> simp [ha, hb, hx] at h ⊢
theorem fb_xor (a b : Nat) : fb (a ^^^ b) = fb a ^^^ fb b := by
  have ho := xor_odd a b
  have hh := xor_half a b
  have ha := Nat.mod_two_eq_zero_or_one a
  have hb := Nat.mod_two_eq_zero_or_one b
  unfold fb
  rw [hh, ho]
  rcases ha with ha | ha <;> rcases hb with hb | hb <;> simp [ha, hb]
  · rw [Nat.xor_assoc]
  · rw [Nat.xor_assoc, Nat.xor_comm (b / 2), Nat.xor_assoc]
  · rw [Nat.xor_assoc, Nat.xor_comm 3988292384 (b / 2 ^^^ 3988292384), Nat.xor_assoc, Nat.xor_self, Nat.xor_zero]

/-- past k zero bits -/
def fk : Nat → Nat → Nat
  | 0, s => s
  | k + 1, s => fb (fk k s)
theorem fk_zero (k : Nat) : fk k 0 = 0 := by induction k with | zero => rfl | succ k ih => simp [fk, ih, fb]
theorem fk_xor (k a b : Nat) : fk k (a ^^^ b) = fk k a ^^^ fk k b := by
  induction k with | zero => rfl | succ k ih => simp only [fk, ih, fb_xor]
theorem fk_lt (k : Nat) {s : Nat} (h : s < 4294967296) : fk k s < 4294967296 := by
  induction k with | zero => exact h | succ k ih => exact fb_lt ih
theorem fk_add (j k s : Nat) : fk (j + k) s = fk j (fk k s) := by
  induction j with | zero => simp [fk] | succ j ih => rw [show j + 1 + k = (j + k) + 1 by omega]; simp only [fk, ih]
theorem fk_if (k : Nat) (c : Bool) (s : Nat) : fk k (if c then s else 0) = if c then fk k s else 0 := by cases c <;> simp [fk_zero]

/-- low bits, one more -/
theorem low_succ (s i : Nat) : s % 2 ^ (i + 1) = (s % 2 ^ i) ^^^ (if s / 2 ^ i % 2 = 1 then 2 ^ i else 0) := by
  apply Nat.eq_of_testBit_eq
  intro j
  rw [Nat.testBit_mod_two_pow, Nat.testBit_xor, Nat.testBit_mod_two_pow]
  have hb : s / 2 ^ i % 2 = 1 ↔ s.testBit i = true := by
    rw [Nat.testBit_eq_decide_div_mod_eq]; simp
  by_cases hs : s / 2 ^ i % 2 = 1
  · have ht := hb.1 hs
    simp only [hs, if_true, Nat.testBit_two_pow]
    by_cases hj : i = j
    · subst hj; simp [ht]
    · have : (j < i + 1) ↔ (j < i) := by omega
      simp [hj, this]
  · have ht : s.testBit i = false := by
      cases h : s.testBit i
      · rfl
      · exact absurd (hb.2 h) hs
    simp only [hs, if_false, Nat.zero_testBit, Bool.xor_false]
    by_cases hj : i = j
    · subst hj; simp [ht]
    · have : (j < i + 1) ↔ (j < i) := by omega
      simp [this]

/-- what a linear map makes of the lowest i bits of s -/
def lin (m : Nat → Nat) (s : Nat) : Nat → Nat
  | 0 => 0
  | i + 1 => lin m s i ^^^ (if s / 2 ^ i % 2 = 1 then m i else 0)
theorem lin_fk (K s i : Nat) : lin (fun j => fk K (2 ^ j)) s i = fk K (s % 2 ^ i) := by
  induction i with
  | zero => simp [lin, Nat.mod_one, fk_zero]
  | succ i ih =>
    rw [low_succ, fk_xor, ← ih]
    simp only [lin]
    congr 1
    split <;> simp [fk_zero]
theorem lin_fk32 (K s : Nat) (h : s < 4294967296) : lin (fun j => fk K (2 ^ j)) s 32 = fk K s := by
  rw [lin_fk, Nat.mod_eq_of_lt (by simpa using h)]
theorem lin_congr (m m' : Nat → Nat) (s i : Nat) (h : ∀ j, j < i → m j = m' j) : lin m s i = lin m' s i := by
  induction i with
  | zero => rfl
  | succ i ih => simp only [lin]; rw [ih (fun j hj => h j (by omega)), h i (by omega)]
theorem lin_lt (m : Nat → Nat) (s i : Nat) (h : ∀ j, j < i → m j < 4294967296) : lin m s i < 4294967296 := by
  induction i with
  | zero => simp [lin]
  | succ i ih =>
    simp only [lin]
    refine Nat.xor_lt_two_pow (n := 32) (ih fun j hj => h j (by omega)) ?_
    split
    · exact h i (by omega)
    · omega

/-- the product, by the highest i bits of a -/
def mulTo (a b : Nat) : Nat → Nat
  | 0 => 0
  | i + 1 => mulTo a b i ^^^ (if a / 2 ^ (31 - i) % 2 = 1 then fk i b else 0)
theorem mulTo_lt (a b i : Nat) (hb : b < 4294967296) : mulTo a b i < 4294967296 := by
  induction i with
  | zero => simp [mulTo]
  | succ i ih =>
    simp only [mulTo]
    refine Nat.xor_lt_two_pow (n := 32) ih ?_
    split
    · exact fk_lt _ hb
    · omega
theorem fk_top (j : Nat) (h : j ≤ 31) : fk j 2147483648 = 2 ^ (31 - j) := by
  have all : ∀ j : Fin 32, fk j.val 2147483648 = 2 ^ (31 - j.val) := by decide
  exact all ⟨j, by omega⟩
theorem fk_comm (j k s : Nat) : fk j (fk k s) = fk k (fk j s) := by
  rw [← fk_add, ← fk_add, Nat.add_comm]
theorem mulTo_top (a k i : Nat) (hi : i ≤ 32) (ha : a < 4294967296) : mulTo a (fk k 2147483648) i = fk k (a ^^^ (a % 2 ^ (32 - i))) := by
  induction i with
  | zero => simp [mulTo, Nat.mod_eq_of_lt ha, fk_zero]
  | succ i ih =>
    simp only [mulTo]
    rw [ih (by omega), show 32 - i = (31 - i) + 1 by omega, show 32 - (i + 1) = 31 - i by omega, low_succ a (31 - i), fk_comm, fk_top i (by omega)]
    by_cases h : a / 2 ^ (31 - i) % 2 = 1
    · simp only [h, if_true]
      rw [← fk_xor]
      congr 1
      rw [Nat.xor_assoc, Nat.xor_assoc, Nat.xor_self, Nat.xor_zero]
    · simp [h]
theorem mul_top (a k : Nat) (ha : a < 4294967296) : mulTo a (fk k 2147483648) 32 = fk k a := by
  rw [mulTo_top a k 32 (by omega) ha]; simp [Nat.mod_one]
/-- one round of the product -/
theorem times_step (m n k : Nat) (h : k < 32) :
    m * 2 ^ (k + 1) % 4294967296 = m * 2 ^ k % 4294967296 * 2 % 4294967296 ∧
    fk (k + 1) n = fb (fk k n) ∧
    mulTo m n (k + 1) = mulTo m n k ^^^ (if m * 2 ^ k % 4294967296 / 2147483648 = 1 then fk k n else 0) := by
  refine ⟨by rw [Nat.pow_succ, ← Nat.mul_assoc]; omega, rfl, ?_⟩
  have e : m * 2 ^ k % 4294967296 / 2147483648 = m / 2 ^ (31 - k) % 2 := by
    have hp : (4294967296 : Nat) = 2 ^ k * 2 ^ (31 - k) * 2 := by
      rw [← Nat.pow_add, show k + (31 - k) = 31 by omega]
    have hq : (2147483648 : Nat) = 2 ^ k * 2 ^ (31 - k) := by
      rw [← Nat.pow_add]; rw [show k + (31 - k) = 31 by omega]
    rw [hp, hq, Nat.mul_comm m, Nat.mul_assoc, Nat.mul_mod_mul_left, Nat.mul_div_mul_left _ _ (Nat.two_pow_pos k), Nat.mod_mul_right_div_self]
  simp only [mulTo, e]
/-- where the product's loop stands behind k rounds -/
def TR (m n k A B P : Nat) : Prop := A = m * 2 ^ k % 4294967296 ∧ B = fk k n ∧ P = mulTo m n k
theorem TR_lt {m n k A B P : Nat} (h : TR m n k A B P) (hn : n < 4294967296) : A < 4294967296 ∧ B < 4294967296 ∧ P < 4294967296 := by
  obtain ⟨rfl, rfl, rfl⟩ := h
  exact ⟨Nat.mod_lt _ (by decide), fk_lt _ hn, mulTo_lt _ _ _ hn⟩
theorem TR_0 {m n : Nat} (hm : m < 4294967296) : TR m n 0 m n 0 := ⟨by simp [Nat.mod_eq_of_lt hm], rfl, rfl⟩
theorem TR_step {m n k A B P A' B' P' : Nat} (h : TR m n k A B P) (hk : k < 32) (hA : A' = A * 2 % 4294967296) (hB : B' = fb B) (hP : P' = P ^^^ (if A / 2147483648 = 1 then B else 0)) : TR m n (k + 1) A' B' P' := by
  obtain ⟨rfl, rfl, rfl⟩ := h
  obtain ⟨e1, e2, e3⟩ := times_step m n k hk
  exact ⟨by rw [hA, e1], by rw [hB, e2], by rw [hP, e3]⟩
def mul (m n : Nat) : Nat := mulTo m n 32
theorem TR_end {m n A B P : Nat} (h : TR m n 32 A B P) : P = mul m n := h.2.2
theorem mul_lt (a b : Nat) (hb : b < 4294967296) : mul a b < 4294967296 := mulTo_lt _ _ _ hb
theorem mul_fk (a k : Nat) (ha : a < 4294967296) : mul a (fk k 2147483648) = fk k a := mul_top a k ha
/-- where the power's loop stands -/
def PW (n N P X : Nat) : Prop := ∃ j k, P = fk j 2147483648 ∧ X = fk k 2147483648 ∧ j + k * N = 8 * n
theorem top_lt : (2147483648 : Nat) < 4294967296 := by decide
theorem PW_lt {n N P X : Nat} (h : PW n N P X) : P < 4294967296 ∧ X < 4294967296 := by
  obtain ⟨j, k, rfl, rfl, _⟩ := h
  exact ⟨fk_lt _ top_lt, fk_lt _ top_lt⟩
theorem PW_0 (n : Nat) : PW n n 2147483648 8388608 := ⟨0, 8, rfl, by decide, by omega⟩
theorem PW_odd {n N P X : Nat} (h : PW n N P X) (ho : N % 2 = 1) : PW n (N / 2) (mul P X) (mul X X) := by
  obtain ⟨j, k, rfl, rfl, e⟩ := h
  refine ⟨k + j, k + k, ?_, ?_, ?_⟩
  · rw [mul_fk _ _ (fk_lt _ top_lt), fk_add]
  · rw [mul_fk _ _ (fk_lt _ top_lt), fk_add]
  · have h2 : N = 2 * (N / 2) + 1 := by omega
    generalize N / 2 = q at *
    subst h2
    rw [← e, Nat.add_mul]
    have : k * (2 * q + 1) = k * q + k * q + k := by rw [Nat.mul_add, Nat.two_mul, Nat.mul_add]; omega
    omega
theorem PW_even {n N P X : Nat} (h : PW n N P X) (ho : ¬ N % 2 = 1) : PW n (N / 2) P (mul X X) := by
  obtain ⟨j, k, rfl, rfl, e⟩ := h
  refine ⟨j, k + k, rfl, ?_, ?_⟩
  · rw [mul_fk _ _ (fk_lt _ top_lt), fk_add]
  · have h2 : N = 2 * (N / 2) := by omega
    generalize N / 2 = q at *
    subst h2
    rw [← e, Nat.add_mul]
    have : k * (2 * q) = k * q + k * q := by rw [Nat.two_mul, Nat.mul_add]
    omega
def pow8 (n : Nat) : Nat := fk (8 * n) 2147483648
theorem PW_end {n P X : Nat} (h : PW n 0 P X) : P = pow8 n := by
  obtain ⟨j, k, rfl, rfl, e⟩ := h
  rw [pow8, ← e]; simp
theorem pow8_lt (n : Nat) : pow8 n < 4294967296 := fk_lt _ top_lt
/-- what n zero bytes make of a sum -/
def over8 (n a : Nat) : Nat := fk (8 * n) a
theorem mul_pow8 (a n : Nat) (ha : a < 4294967296) : mul a (pow8 n) = over8 n a := mul_fk _ _ ha
theorem over8_lt (n : Nat) {a : Nat} (ha : a < 4294967296) : over8 n a < 4294967296 := fk_lt _ ha
/-- one round of the linear map -/
def LR (m : Nat → Nat) (s k O : Nat) : Prop := O = lin m s k
theorem LR_lt {m : Nat → Nat} {s k O : Nat} (h : LR m s k O) (hk : k ≤ 32) (hm : ∀ i, i < 32 → m i < 4294967296) : O < 4294967296 := by
  subst h; exact lin_lt _ _ _ fun j hj => hm j (by omega)
theorem LR_yes {m : Nat → Nat} {s k O : Nat} (h : LR m s k O) (hb : s / 2 ^ k % 2 = 1) : LR m s (k + 1) (O ^^^ m k) := by
  subst h; simp [LR, lin, hb]
theorem LR_no {m : Nat → Nat} {s k O : Nat} (h : LR m s k O) (hb : ¬ s / 2 ^ k % 2 = 1) : LR m s (k + 1) O := by
  subst h; simp [LR, lin, hb]
def linAll (m : Nat → Nat) (s : Nat) : Nat := lin m s 32
theorem LR_end {m : Nat → Nat} {s O : Nat} (h : LR m s 32 O) : O = linAll m s := h
theorem linAll_lt {m : Nat → Nat} {s : Nat} (hm : ∀ i, i < 32 → m i < 4294967296) : linAll m s < 4294967296 := lin_lt _ _ _ hm
theorem top8 : (8388608 : Nat) = fk 8 2147483648 := by decide

end Go.Proofs.Ytikifggencglkaa.M
