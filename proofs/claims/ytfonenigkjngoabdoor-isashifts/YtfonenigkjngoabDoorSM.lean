import Derived.Test.YtfonenigkjngoabDoorRM
import Derived.Test.YtfonenigkjngoabDoorI5
namespace Go.Proofs.YtfonenigkjngoabDoor
open Go.RowKit
theorem pow_split {y : Nat} (h : y < 32) : 2 ^ (32 - y) * 2 ^ y = 4294967296 := by
  rw [← Nat.pow_add, Nat.sub_add_cancel (by omega)]
theorem pow_lt {y : Nat} (h : y < 32) : 2 ^ y ≤ 2147483648 := by
  have : 2 ^ y ≤ 2 ^ 31 := Nat.pow_le_pow_right (by decide) (by omega)
  exact this
theorem shl_is {x y : Nat} (h : y < 32) : x * 2 ^ y % 4294967296 = x % 2 ^ (32 - y) * 2 ^ y := by
  rw [← pow_split h, Nat.mul_mod_mul_right]
theorem and_low (x y : Nat) (hx : x < 4294967296) (h : y ≤ 32) : bits .and .u32 (x : Int) (((2 ^ y - 1 : Nat) : Nat) : Int) = ((x % 2 ^ y : Nat) : Int) := by
  have e := u32_mask y h (x : Int) (by omega) (by omega)
  have hp : 0 < 2 ^ y := Nat.two_pow_pos y
  have c : (((2 ^ y - 1 : Nat) : Nat) : Int) = (2 : Int) ^ y - 1 := by rw [Int.natCast_sub hp]; simp
  rw [c, e]; simp
theorem andNot_low (x y : Nat) (hx : x < 4294967296) (h : y < 32) : bits .andNot .u32 (x : Int) (((2 ^ y - 1 : Nat) : Nat) : Int) = ((x / 2 ^ y * 2 ^ y : Nat) : Int) := by
  have h1 := and_low x y hx (by omega)
  have hp : 0 < 2 ^ y := Nat.two_pow_pos y
  have hpl := pow_lt h
  obtain ⟨M, hM⟩ : ∃ M, 2 ^ y - 1 = M := ⟨_, rfl⟩
  have hMl : M < 4294967296 := by omega
  rw [hM] at h1 ⊢
  have hX : (BitVec.ofInt 32 (x : Int)).toNat = x := by rw [BitVec.ofInt_natCast, BitVec.toNat_ofNat]; exact Nat.mod_eq_of_lt (by omega)
  have hB := and_or_add (BitVec.ofInt 32 (x : Int) &&& BitVec.ofInt 32 (M : Int)).toNat (BitVec.ofInt 32 (x : Int) &&& ~~~ BitVec.ofInt 32 (M : Int)).toNat
  rw [← BitVec.toNat_and, ← BitVec.toNat_or] at hB
  have e1 : (BitVec.ofInt 32 (x : Int) &&& BitVec.ofInt 32 (M : Int)) &&& (BitVec.ofInt 32 (x : Int) &&& ~~~ BitVec.ofInt 32 (M : Int)) = 0#32 := by
    ext i hi
    simp
    intro _ a _; exact a
  have e2 : (BitVec.ofInt 32 (x : Int) &&& BitVec.ofInt 32 (M : Int)) ||| (BitVec.ofInt 32 (x : Int) &&& ~~~ BitVec.ofInt 32 (M : Int)) = BitVec.ofInt 32 (x : Int) := by
    ext i hi
    simp
    generalize (BitVec.ofNat 32 x)[i] = p
    generalize (BitVec.ofNat 32 M)[i] = q
    cases p <;> cases q <;> rfl
  rw [e1, e2, hX] at hB
  have hA : ((BitVec.ofInt 32 (x : Int) &&& BitVec.ofInt 32 (M : Int)).toNat : Int) = ((x % 2 ^ y : Nat) : Int) := by
    have : bits .and .u32 (x : Int) (M : Int) = IntKind.u32.wrap ((BitVec.ofInt 32 (x : Int) &&& BitVec.ofInt 32 (M : Int)).toNat : Int) := rfl
    rw [this, IntKind.wrap_u32] at h1
    have hlt := (BitVec.ofInt 32 (x : Int) &&& BitVec.ofInt 32 (M : Int)).isLt
    omega
  show IntKind.u32.wrap ((BitVec.ofInt 32 (x : Int) &&& ~~~ BitVec.ofInt 32 (M : Int)).toNat : Int) = _
  rw [IntKind.wrap_u32]
  have hd := Nat.div_add_mod x (2 ^ y)
  rw [Nat.mul_comm] at hd
  have z0 : (0#32).toNat = 0 := rfl
  rw [z0] at hB
  generalize (BitVec.ofInt 32 (x : Int) &&& ~~~ BitVec.ofInt 32 (M : Int)).toNat = B at *
  generalize (BitVec.ofInt 32 (x : Int) &&& BitVec.ofInt 32 (M : Int)).toNat = A at *
  generalize x / 2 ^ y * 2 ^ y = Q at *
  generalize x % 2 ^ y = Rm at *
  omega
set_option linter.unusedVariables false
theorem sh_A1 {x y : Nat} (hx : x < 4294967296) (h : y < 32) : bits .andNot .u32 (x : Int) (((2 ^ y - 1 : Nat) : Nat) : Int) = ((res 13 (res 14 x y 0) y 0 : Nat) : Int) := by
  rw [andNot_low x y hx h]
  simp only [res]
  rw [if_pos h, if_pos h, Nat.mod_eq_of_lt (Nat.lt_of_le_of_lt (Nat.div_mul_le_self x (2 ^ y)) hx)]
theorem sh_A2 {x y : Nat} (hx : x < 4294967296) (h : y < 32) : bits .and .u32 (x : Int) (((2 : Int) ^ (32 - y) - 1) % 4294967296) = ((res 14 (res 13 x y 0) y 0 : Nat) : Int) := by
  have hp : 0 < 2 ^ (32 - y) := Nat.two_pow_pos _
  have hle : 2 ^ (32 - y) ≤ 4294967296 := by
    have : 2 ^ (32 - y) ≤ 2 ^ 32 := Nat.pow_le_pow_right (by decide) (by omega)
    exact this
  have c : ((2 : Int) ^ (32 - y) - 1) % 4294967296 = (((2 ^ (32 - y) - 1 : Nat) : Nat) : Int) := by
    have c0 : (((2 ^ (32 - y) - 1 : Nat) : Nat) : Int) = (2 : Int) ^ (32 - y) - 1 := by rw [Int.natCast_sub hp]; simp
    rw [← c0]
    generalize 2 ^ (32 - y) = P at *
    omega
  rw [c, and_low x (32 - y) hx (by omega)]
  simp only [res]
  rw [if_pos h, if_pos h, shl_is h, Nat.mul_div_cancel _ (Nat.two_pow_pos y)]
theorem sh_A3 {x y : Nat} (hx : x < 4294967296) (h : y < 32) : bits .and .u32 ((res 13 x y 0 : Nat) : Int) (((2 ^ y - 1 : Nat) : Nat) : Int) = 0 := by
  have hl : res 13 x y 0 < 4294967296 := by simp only [res]; rw [if_pos h]; exact Nat.mod_lt _ (by decide)
  rw [and_low _ y hl (by omega)]
  simp only [res]
  rw [if_pos h, shl_is h, Nat.mul_mod_left]; rfl
theorem sh_A4 {x y : Nat} (hx : x < 4294967296) (h : y < 32) : (IntKind.u64.wrap ((x : Int) * 2 ^ y)).tmod 4294967296 = ((res 13 x y 0 : Nat) : Int) := by
  have hpl := pow_lt h
  have hb : x * 2 ^ y ≤ 4294967295 * 2147483648 := Nat.mul_le_mul (by omega) hpl
  have e : ((x : Int) * 2 ^ y) = ((x * 2 ^ y : Nat) : Int) := by simp
  rw [e, IntKind.wrap_u64]
  simp only [res]
  rw [if_pos h]
  generalize x * 2 ^ y = P at *
  rw [Int.tmod_eq_emod_of_nonneg (by omega)]
  omega
theorem sh_p {x y : Nat} (hx : x < 4294967296) (h : y < 32) : (2 : Int) ^ y % 4294967296 = ((2 ^ y : Nat) : Int) := by
  have hpl := pow_lt h
  have e : (2 : Int) ^ y = ((2 ^ y : Nat) : Int) := by simp
  rw [e]
  generalize 2 ^ y = P at *
  omega
end Go.Proofs.YtfonenigkjngoabDoor
