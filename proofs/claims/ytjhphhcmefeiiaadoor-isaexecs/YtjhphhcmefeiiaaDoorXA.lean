import Derived.Test.YtjhphhcmefeiiaaDoorE1
namespace Go.Proofs.YtjhphhcmefeiiaaDoor
open Go.RowKit

/-- bit by bit -/
def bw (kind x y : Nat) : Nat := if kind = 1 then x ||| y else if kind = 2 then x ^^^ y else x &&& y
def bt (x i : Nat) : Nat := x / 2 ^ i % 2
def bc (kind a b : Nat) : Nat := if kind = 1 then a + b - a * b else if kind = 2 then (a + b) % 2 else a * b
theorem bt_lt (x i : Nat) : bt x i < 2 := Nat.mod_lt _ (by decide)
theorem bt_test (x i : Nat) : bt x i = if x.testBit i then 1 else 0 := by
  have h : x.testBit i = decide (x / 2 ^ i % 2 = 1) := Nat.testBit_eq_decide_div_mod_eq
  have h2 := bt_lt x i
  unfold bt at *
  rw [h]
  by_cases e : x / 2 ^ i % 2 = 1
  · simp [e]
  · simp [e]; omega
theorem bw_bit (kind x y i : Nat) : bc kind (bt x i) (bt y i) = bt (bw kind x y) i := by
  rw [bt_test x, bt_test y, bt_test (bw kind x y)]
  unfold bc bw
  by_cases h1 : kind = 1
  · rw [if_pos h1, if_pos h1, Nat.testBit_or]
    cases x.testBit i <;> cases y.testBit i <;> rfl
  · by_cases h2 : kind = 2
    · rw [if_neg h1, if_pos h2, if_neg h1, if_pos h2, Nat.testBit_xor]
      cases x.testBit i <;> cases y.testBit i <;> rfl
    · rw [if_neg h1, if_neg h2, if_neg h1, if_neg h2, Nat.testBit_and]
      cases x.testBit i <;> cases y.testBit i <;> rfl
theorem bw_lt {kind x y : Nat} (hx : x < 4294967296) (hy : y < 4294967296) : bw kind x y < 4294967296 := by
  unfold bw
  have hx' : x < 2 ^ 32 := hx
  have hy' : y < 2 ^ 32 := hy
  split
  · exact Nat.or_lt_two_pow hx' hy'
  · split
    · exact Nat.xor_lt_two_pow hx' hy'
    · exact Nat.and_lt_two_pow x hy'
theorem mod_next (m i : Nat) : m % 2 ^ (i + 1) = m % 2 ^ i + bt m i * 2 ^ i := by
  unfold bt
  rw [Nat.mod_pow_succ, Nat.mul_comm]
/-- a product in two halves -/
theorem prod_eq (x y : Nat) : (x * (y / 65536) % 65536 * 65536 + x * (y % 65536)) % 4294967296 = x * y % 4294967296 := by
  have h : x * y = x * (y / 65536) * 65536 + x * (y % 65536) := by
    rw [Nat.mul_assoc, ← Nat.mul_add]
    congr 1
    omega
  rw [h]
  generalize x * (y / 65536) = p
  generalize x * (y % 65536) = q
  omega
/-- doubled and halved -/
def sl (x : Nat) : Nat → Nat
  | 0 => x
  | n + 1 => sl x n * 2 % 4294967296
def sr (x : Nat) : Nat → Nat
  | 0 => x
  | n + 1 => sr x n / 2
theorem sl_eq {x : Nat} (hx : x < 4294967296) : ∀ n, sl x n = x * 2 ^ n % 4294967296
  | 0 => by simp [sl, Nat.mod_eq_of_lt hx]
  | n + 1 => by
    rw [sl, sl_eq hx n, Nat.pow_succ, ← Nat.mul_assoc]
    generalize x * 2 ^ n = p
    omega
theorem sr_eq (x : Nat) : ∀ n, sr x n = x / 2 ^ n
  | 0 => by simp [sr]
  | n + 1 => by rw [sr, sr_eq x n, Nat.pow_succ, Nat.div_div_eq_div_mul]
theorem sl_lt {x : Nat} (hx : x < 4294967296) (n : Nat) : sl x n < 4294967296 := by rw [sl_eq hx]; exact Nat.mod_lt _ (by decide)
theorem sr_lt {x : Nat} (hx : x < 4294967296) (n : Nat) : sr x n < 4294967296 := by rw [sr_eq]; exact Nat.lt_of_le_of_lt (Nat.div_le_self _ _) hx
/-- as many steps as are taken -/
def mn (y : Nat) : Nat := if y < 32 then y else 32
theorem sl_res {x y : Nat} (hx : x < 4294967296) : sl x (mn y) = if y < 32 then x * 2 ^ y % 4294967296 else 0 := by
  rw [sl_eq hx]
  unfold mn
  split
  · rfl
  · rw [show (4294967296 : Nat) = 2 ^ 32 from rfl]; exact Nat.mul_mod_left _ _
theorem sr_res {x y : Nat} (hx : x < 4294967296) : sr x (mn y) = if y < 32 then x / 2 ^ y else 0 := by
  rw [sr_eq]
  unfold mn
  split
  · rfl
  · exact Nat.div_eq_of_lt hx
end Go.Proofs.YtjhphhcmefeiiaaDoor
