import Derived.Test.YtfonenigkjngoabDoorE1
namespace Go.Proofs.YtfonenigkjngoabDoor
open Go.RowKit
theorem and_or_add (a : Nat) : ∀ b : Nat, (a &&& b) + (a ||| b) = a + b := by
  induction a using Nat.strongRecOn with
  | _ a ih =>
    intro b
    by_cases h : a = 0
    · subst h; simp
    · have i := ih (a / 2) (by omega) (b / 2)
      have h1 := Nat.and_div_two (a := a) (b := b)
      have h2 := Nat.or_div_two (a := a) (b := b)
      have h3 := Nat.and_mod_two_eq_one (a := a) (b := b)
      have h4 := Nat.or_mod_two_eq_one (a := a) (b := b)
      omega
theorem and_xor_add (a : Nat) : ∀ b : Nat, (a &&& b) + (a ^^^ b) = a ||| b := by
  induction a using Nat.strongRecOn with
  | _ a ih =>
    intro b
    by_cases h : a = 0
    · subst h; simp
    · have i := ih (a / 2) (by omega) (b / 2)
      have h1 := Nat.and_div_two (a := a) (b := b)
      have h2 := Nat.or_div_two (a := a) (b := b)
      have h5 := Nat.xor_div_two (a := a) (b := b)
      have h3 := Nat.and_mod_two_eq_one (a := a) (b := b)
      have h4 := Nat.or_mod_two_eq_one (a := a) (b := b)
      have h6 := Nat.xor_mod_two_eq_one (a := a) (b := b)
      omega
theorem xor_top (x : Nat) (hx : x < 4294967296) : x ^^^ 2147483648 = if x < 2147483648 then x + 2147483648 else x - 2147483648 := by
  have h1 := and_or_add x 2147483648
  have h2 := and_xor_add x 2147483648
  have h3 : x &&& 2147483648 = if x < 2147483648 then 0 else 2147483648 := by
    have hd : (x &&& 2147483648) / 2 ^ 31 = x / 2 ^ 31 &&& 2147483648 / 2 ^ 31 := Nat.and_div_two_pow
    have hm : (x &&& 2147483648) % 2 ^ 31 = x % 2 ^ 31 &&& 2147483648 % 2 ^ 31 := Nat.and_mod_two_pow
    rw [show 2147483648 % 2 ^ 31 = 0 from rfl, Nat.and_zero] at hm
    rw [show 2147483648 / 2 ^ 31 = 1 from rfl, Nat.and_one_is_mod] at hd
    split <;> omega
  split at h3 <;> rename_i h
  · rw [if_pos h]; omega
  · rw [if_neg h]; omega
theorem sg_top (x y : Nat) (hx : x < 4294967296) (hy : y < 4294967296) : (sg x < sg y) ↔ (x ^^^ 2147483648 < y ^^^ 2147483648) := by
  rw [xor_top x hx, xor_top y hy]
  unfold sg
  split <;> split <;> omega
theorem andNot_one (x y : Nat) : bits .andNot .u32 ((x &&& y : Nat) : Int) (x : Int) = 0 := by
  have e : BitVec.ofInt 32 ((x &&& y : Nat) : Int) &&& ~~~ BitVec.ofInt 32 (x : Int) = 0#32 := by
    rw [BitVec.ofInt_natCast, BitVec.ofInt_natCast, BitVec.ofNat_and]
    ext i hi
    simp
    intro h; simp [h]
  show IntKind.u32.wrap ((BitVec.ofInt 32 ((x &&& y : Nat) : Int) &&& ~~~ BitVec.ofInt 32 (x : Int)).toNat : Int) = 0
  rw [e]; rfl
theorem andNot_two (x y : Nat) : bits .andNot .u32 (x : Int) ((x ||| y : Nat) : Int) = 0 := by
  have e : BitVec.ofInt 32 (x : Int) &&& ~~~ BitVec.ofInt 32 ((x ||| y : Nat) : Int) = 0#32 := by
    rw [BitVec.ofInt_natCast, BitVec.ofInt_natCast, BitVec.ofNat_or]
    ext i hi
    simp
    intro h; simp [h]
  show IntKind.u32.wrap ((BitVec.ofInt 32 (x : Int) &&& ~~~ BitVec.ofInt 32 ((x ||| y : Nat) : Int)).toNat : Int) = 0
  rw [e]; rfl
end Go.Proofs.YtfonenigkjngoabDoor
