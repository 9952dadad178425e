namespace Go.Proofs.Ytikifggencglkaa.MB

/-- one bit turned -/
def flip (zs : List Nat) (j : Nat) : List Nat := zs.set (j / 8) (zs.getD (j / 8) 0 ^^^ 2 ^ (j % 8))
theorem flip_len (zs : List Nat) (j : Nat) : (flip zs j).length = zs.length := by simp [flip]
theorem pow8_lt (j : Nat) : 2 ^ (j % 8) < 256 :=
  Nat.pow_lt_pow_of_lt (a := 2) (n := j % 8) (m := 8) (by decide) (Nat.mod_lt _ (by decide))
theorem getD_lt {zs : List Nat} (h : ∀ n ∈ zs, n < 256) (i : Nat) : zs.getD i 0 < 256 := by
  by_cases hi : i < zs.length
  · rw [List.getD_eq_getElem?_getD, List.getElem?_eq_getElem hi]; exact h _ (List.getElem_mem hi)
  · rw [List.getD_eq_getElem?_getD, List.getElem?_eq_none (by omega)]; simp
theorem flip_lt {zs : List Nat} (h : ∀ n ∈ zs, n < 256) (j : Nat) : ∀ n ∈ flip zs j, n < 256 := by
  intro n hn
  rcases List.mem_or_eq_of_mem_set hn with h' | rfl
  · exact h n h'
  · exact Nat.xor_lt_two_pow (n := 8) (getD_lt h _) (pow8_lt j)
/-- the bits of mask below k turned -/
def bt (zs : List Nat) (at_ mask : Nat) : Nat → List Nat
  | 0 => zs
  | k + 1 => if mask / 2 ^ k % 2 = 1 then flip (bt zs at_ mask k) (at_ + k) else bt zs at_ mask k
theorem bt_len (zs : List Nat) (a m k : Nat) : (bt zs a m k).length = zs.length := by
  induction k with
  | zero => rfl
  | succ k ih => simp only [bt]; split <;> simp [flip_len, ih]
theorem bt_lt {zs : List Nat} (h : ∀ n ∈ zs, n < 256) (a m k : Nat) : ∀ n ∈ bt zs a m k, n < 256 := by
  induction k with
  | zero => exact h
  | succ k ih =>
    simp only [bt]; split
    · exact flip_lt ih _
    · exact ih
/-- where a loop over the bits stands -/
def BR (zs : List Nat) (a m k : Nat) (Z : List Nat) : Prop := Z = bt zs a m k
theorem BR_0 (zs : List Nat) (a m : Nat) : BR zs a m 0 zs := rfl
theorem BR_yes {zs : List Nat} {a m k : Nat} {Z : List Nat} (h : BR zs a m k Z) (hb : m / 2 ^ k % 2 = 1) : BR zs a m (k + 1) (flip Z (a + k)) := by
  subst h; simp [BR, bt, hb]
theorem BR_no {zs : List Nat} {a m k : Nat} {Z : List Nat} (h : BR zs a m k Z) (hb : ¬ m / 2 ^ k % 2 = 1) : BR zs a m (k + 1) Z := by
  subst h; simp [BR, bt, hb]
theorem BR_len {zs : List Nat} {a m k : Nat} {Z : List Nat} (h : BR zs a m k Z) : Z.length = zs.length := by subst h; exact bt_len _ _ _ _
theorem BR_lt {zs : List Nat} {a m k : Nat} {Z : List Nat} (h : BR zs a m k Z) (hz : ∀ n ∈ zs, n < 256) : ∀ n ∈ Z, n < 256 := by subst h; exact bt_lt hz _ _ _
theorem bit_above {m W i : Nat} (h : m < 2 ^ W) (hi : W ≤ i) : ¬ m / 2 ^ i % 2 = 1 := by
  rw [Nat.div_eq_of_lt (Nat.lt_of_lt_of_le h (Nat.pow_le_pow_right (by decide) hi))]; simp
theorem bt_above (zs : List Nat) (a m W : Nat) (h : m < 2 ^ W) : ∀ d, bt zs a m (W + d) = bt zs a m W
  | 0 => rfl
  | d + 1 => by
    show bt zs a m (W + d + 1) = _
    simp only [bt]
    rw [if_neg (bit_above h (by omega)), bt_above zs a m W h d]
theorem bt_all (zs : List Nat) (a m W : Nat) (h : m < 2 ^ W) (hW : W ≤ 32) : bt zs a m 32 = bt zs a m W := by
  have := bt_above zs a m W h (32 - W)
  rwa [show W + (32 - W) = 32 by omega] at this
theorem top_bit {m W : Nat} (_h0 : m ≠ 0) (h : m < 2 ^ W) (h' : 2 ^ (W - 1) ≤ m) : m / 2 ^ (W - 1) % 2 = 1 := by
  have hW : W ≠ 0 := by intro e; subst e; simp at h; omega
  have e : 2 ^ W = 2 ^ (W - 1) * 2 := by rw [← Nat.pow_succ]; congr 1; omega
  have h1 : m / 2 ^ (W - 1) < 2 := Nat.div_lt_of_lt_mul (by rw [← e]; exact h)
  have h2 : 1 ≤ m / 2 ^ (W - 1) := (Nat.le_div_iff_mul_le (Nat.two_pow_pos _)).2 (by omega)
  omega
end Go.Proofs.Ytikifggencglkaa.MB
