import Derived.Test.YtoaplkfmchphbaaDoorS00
import Derived.Test.YtoaplkfmchphbaaDoorS01
import Derived.Test.YtoaplkfmchphbaaDoorS12
import Derived.Test.YtoaplkfmchphbaaDoorS14
namespace Go.Proofs.YtoaplkfmchphbaaDoor
open Go.RowKit
/-- a word as a two's complement -/
def sg (x : Nat) : Int := if x < 2147483648 then (x : Int) else (x : Int) - 4294967296
/-- what register a becomes -/
def res (op x y imm : Nat) : Nat :=
  match op with
  | 2 => imm
  | 3 => imm * 65536 % 4294967296 + x % 65536
  | 4 => y
  | 5 => (x + y) % 4294967296
  | 6 => (((x : Int) - (y : Int)) % 4294967296).toNat
  | 7 => x * y % 4294967296
  | 8 => x / y
  | 9 => x % y
  | 10 => x &&& y
  | 11 => x ||| y
  | 12 => x ^^^ y
  | 13 => if y < 32 then x * 2 ^ y % 4294967296 else 0
  | 14 => if y < 32 then x / 2 ^ y else 0
  | 15 => if x < y then 1 else 0
  | 16 => if sg x < sg y then 1 else 0
  | 17 => if x = y then 1 else 0
  | 18 => (x + imm) % 4294967296
  | _ => x
/-- where a step goes on -/
def tgt (op x imm next : Nat) : Nat :=
  if op = 24 then x else if op = 21 ∨ op = 25 ∨ (op = 22 ∧ x = 0) ∨ (op = 23 ∧ x ≠ 0) then (next + imm) % 4294967296 else next
section
variable (w : World)
theorem trap_any (c : Int) : Calls Tryd.prog 27 #[.int .i64 c] w fun e w' => e = .returned (.agg #[.int .i64 4, .int .u32 0, .int .i64 0, .int .u32 0, .int .i64 c]) ∧ Below w.heap.size w w' := by
  go_enter Tryd.func27, Tryd.ntmps27
  go_wp2
  exact bodyPost_ret (v := .agg #[.int .i64 4, .int .u32 0, .int .i64 0, .int .u32 0, .int .i64 c]) (by simp [results, Tryd.results27, go_sem]) rfl ⟨rfl, bel1 _ _⟩
theorem truth_any (b : Bool) : Calls Tryd.prog 43 #[.bool b] w fun e w' => e = .returned (.int .u32 (if b then 1 else 0)) ∧ w' = w := by
  cases b
  all_goals
    go_enter Tryd.func43, Tryd.ntmps43
    go_wp2
    go_ret
    exact ⟨rfl, rfl⟩
theorem bits_xor_u32 (a b : Nat) (ha : a < 4294967296) (hb : b < 4294967296) : bits .xor .u32 (a : Int) (b : Int) = ((a ^^^ b : Nat) : Int) := by
  have hx : a ^^^ b < 2 ^ 32 := Nat.xor_lt_two_pow (by omega) (by omega)
  have h1 : (BitVec.ofInt 32 (a : Int)).toNat = a := by rw [BitVec.ofInt_natCast, BitVec.toNat_ofNat]; exact Nat.mod_eq_of_lt (by omega)
  have h2 : (BitVec.ofInt 32 (b : Int)).toNat = b := by rw [BitVec.ofInt_natCast, BitVec.toNat_ofNat]; exact Nat.mod_eq_of_lt (by omega)
  show IntKind.u32.wrap ((BitVec.ofInt 32 (a : Int) ^^^ BitVec.ofInt 32 (b : Int)).toNat : Int) = _
  rw [BitVec.toNat_xor, h1, h2, IntKind.wrap_u32]
  omega
theorem div_word (x y : Nat) (hx : x < 4294967296) : (x : Int) / (y : Int) % 4294967296 = ((x / y : Nat) : Int) := by
  have h := Nat.div_le_self x y
  have e : ((x / y : Nat) : Int) = (x : Int) / (y : Int) := by simp
  rw [← e]
  clear e
  generalize x / y = q at h ⊢
  omega
theorem hi_bits (imm x : Nat) (hx : x < 4294967296) : bits BinOp.or IntKind.u32 ((imm : Int) * 65536 % 4294967296) (bits BinOp.and IntKind.u32 (x : Int) 65535) = (imm : Int) * 65536 % 4294967296 + (x : Int) % 65536 := by
  rw [show (65535 : Int) = 2 ^ 16 - 1 from rfl, u32_mask 16 (by decide) _ (by omega) (by omega)]
  exact bits_join .u32 32 (by decide) wraps_u32 16 _ _ (by omega) (by omega) (by omega) (by omega) (by omega) (by omega)
theorem shl_bits (x y : Nat) : (x : Int) * 2 ^ min y 32 % 4294967296 = ((if y < 32 then x * 2 ^ y % 4294967296 else 0 : Nat) : Int) := by
  by_cases h : y < 32
  · rw [if_pos h, Nat.min_eq_left (by omega)]; simp
  · rw [if_neg h, Nat.min_eq_right (by omega)]; omega
theorem shr_bits (x y : Nat) (hx : x < 4294967296) : (x : Int) / 2 ^ min y 32 = ((if y < 32 then x / 2 ^ y else 0 : Nat) : Int) := by
  by_cases h : y < 32
  · rw [if_pos h, Nat.min_eq_left (by omega)]; simp
  · rw [if_neg h, Nat.min_eq_right (by omega)]; omega
theorem ret_u32 {x y : Int} (h : x = y) : Ending.returned (.int .u32 x) = .returned (.int .u32 y) := by rw [h]
section
variable (x y imm next : Nat)
theorem result_1 : Calls Tryd.prog 29 #[.int .i64 1, .int .u32 (x : Nat), .int .u32 (y : Nat), .int .u32 (imm : Nat)] w fun e w' => e = .returned (.int .u32 (res 1 x y imm : Nat)) ∧ w' = w := by
  go_enter Tryd.func29, Tryd.ntmps29
  go_wp2
  go_ret
  exact ⟨ret_u32 (by rfl), rfl⟩
theorem result_21 : Calls Tryd.prog 29 #[.int .i64 21, .int .u32 (x : Nat), .int .u32 (y : Nat), .int .u32 (imm : Nat)] w fun e w' => e = .returned (.int .u32 (res 21 x y imm : Nat)) ∧ w' = w := by
  go_enter Tryd.func29, Tryd.ntmps29
  go_wp2
  go_ret
  exact ⟨ret_u32 (by rfl), rfl⟩
theorem result_22 : Calls Tryd.prog 29 #[.int .i64 22, .int .u32 (x : Nat), .int .u32 (y : Nat), .int .u32 (imm : Nat)] w fun e w' => e = .returned (.int .u32 (res 22 x y imm : Nat)) ∧ w' = w := by
  go_enter Tryd.func29, Tryd.ntmps29
  go_wp2
  go_ret
  exact ⟨ret_u32 (by rfl), rfl⟩
theorem result_23 : Calls Tryd.prog 29 #[.int .i64 23, .int .u32 (x : Nat), .int .u32 (y : Nat), .int .u32 (imm : Nat)] w fun e w' => e = .returned (.int .u32 (res 23 x y imm : Nat)) ∧ w' = w := by
  go_enter Tryd.func29, Tryd.ntmps29
  go_wp2
  go_ret
  exact ⟨ret_u32 (by rfl), rfl⟩
theorem result_24 : Calls Tryd.prog 29 #[.int .i64 24, .int .u32 (x : Nat), .int .u32 (y : Nat), .int .u32 (imm : Nat)] w fun e w' => e = .returned (.int .u32 (res 24 x y imm : Nat)) ∧ w' = w := by
  go_enter Tryd.func29, Tryd.ntmps29
  go_wp2
  go_ret
  exact ⟨ret_u32 (by rfl), rfl⟩
theorem result_2 : Calls Tryd.prog 29 #[.int .i64 2, .int .u32 (x : Nat), .int .u32 (y : Nat), .int .u32 (imm : Nat)] w fun e w' => e = .returned (.int .u32 (res 2 x y imm : Nat)) ∧ w' = w := by
  go_enter Tryd.func29, Tryd.ntmps29
  go_wp2
  go_ret
  exact ⟨ret_u32 (by rfl), rfl⟩
theorem result_4 : Calls Tryd.prog 29 #[.int .i64 4, .int .u32 (x : Nat), .int .u32 (y : Nat), .int .u32 (imm : Nat)] w fun e w' => e = .returned (.int .u32 (res 4 x y imm : Nat)) ∧ w' = w := by
  go_enter Tryd.func29, Tryd.ntmps29
  go_wp2
  go_ret
  exact ⟨ret_u32 (by rfl), rfl⟩
set_option linter.unusedVariables false
theorem result_5 (hx : x < 4294967296) (hy : y < 4294967296) (hm : imm < 4294967296) : Calls Tryd.prog 29 #[.int .i64 5, .int .u32 (x : Nat), .int .u32 (y : Nat), .int .u32 (imm : Nat)] w fun e w' => e = .returned (.int .u32 (res 5 x y imm : Nat)) ∧ w' = w := by
  go_enter Tryd.func29, Tryd.ntmps29
  go_wp2
  go_ret
  exact ⟨ret_u32 (by simp [res]), rfl⟩
theorem result_6 (hx : x < 4294967296) (hy : y < 4294967296) (hm : imm < 4294967296) : Calls Tryd.prog 29 #[.int .i64 6, .int .u32 (x : Nat), .int .u32 (y : Nat), .int .u32 (imm : Nat)] w fun e w' => e = .returned (.int .u32 (res 6 x y imm : Nat)) ∧ w' = w := by
  go_enter Tryd.func29, Tryd.ntmps29
  go_wp2
  go_ret
  exact ⟨ret_u32 (by simp [res]; omega), rfl⟩
theorem result_7 (hx : x < 4294967296) (hy : y < 4294967296) (hm : imm < 4294967296) : Calls Tryd.prog 29 #[.int .i64 7, .int .u32 (x : Nat), .int .u32 (y : Nat), .int .u32 (imm : Nat)] w fun e w' => e = .returned (.int .u32 (res 7 x y imm : Nat)) ∧ w' = w := by
  go_enter Tryd.func29, Tryd.ntmps29
  go_wp2
  go_ret
  exact ⟨ret_u32 (by simp [res]), rfl⟩
theorem result_8 (hx : x < 4294967296) (hy : y < 4294967296) (hm : imm < 4294967296) (h0 : y ≠ 0) : Calls Tryd.prog 29 #[.int .i64 8, .int .u32 (x : Nat), .int .u32 (y : Nat), .int .u32 (imm : Nat)] w fun e w' => e = .returned (.int .u32 (res 8 x y imm : Nat)) ∧ w' = w := by
  go_enter Tryd.func29, Tryd.ntmps29
  go_wp2
  go_ret
  exact ⟨ret_u32 (by exact div_word x y hx), rfl⟩
theorem result_9 (hx : x < 4294967296) (hy : y < 4294967296) (hm : imm < 4294967296) (h0 : y ≠ 0) : Calls Tryd.prog 29 #[.int .i64 9, .int .u32 (x : Nat), .int .u32 (y : Nat), .int .u32 (imm : Nat)] w fun e w' => e = .returned (.int .u32 (res 9 x y imm : Nat)) ∧ w' = w := by
  go_enter Tryd.func29, Tryd.ntmps29
  go_wp2
  go_ret
  exact ⟨ret_u32 (by simp [res]), rfl⟩
theorem result_18 (hx : x < 4294967296) (hy : y < 4294967296) (hm : imm < 4294967296) : Calls Tryd.prog 29 #[.int .i64 18, .int .u32 (x : Nat), .int .u32 (y : Nat), .int .u32 (imm : Nat)] w fun e w' => e = .returned (.int .u32 (res 18 x y imm : Nat)) ∧ w' = w := by
  go_enter Tryd.func29, Tryd.ntmps29
  go_wp2
  go_ret
  exact ⟨ret_u32 (by simp [res]), rfl⟩
theorem result_3 (hx : x < 4294967296) (hy : y < 4294967296) (hm : imm < 4294967296) : Calls Tryd.prog 29 #[.int .i64 3, .int .u32 (x : Nat), .int .u32 (y : Nat), .int .u32 (imm : Nat)] w fun e w' => e = .returned (.int .u32 (res 3 x y imm : Nat)) ∧ w' = w := by
  go_enter Tryd.func29, Tryd.ntmps29
  go_wp2
  go_ret
  exact ⟨ret_u32 (by simp only [res]; rw [hi_bits imm x hx]; omega), rfl⟩
theorem result_10 (hx : x < 4294967296) (hy : y < 4294967296) (hm : imm < 4294967296) : Calls Tryd.prog 29 #[.int .i64 10, .int .u32 (x : Nat), .int .u32 (y : Nat), .int .u32 (imm : Nat)] w fun e w' => e = .returned (.int .u32 (res 10 x y imm : Nat)) ∧ w' = w := by
  go_enter Tryd.func29, Tryd.ntmps29
  go_wp2
  go_ret
  exact ⟨ret_u32 (by exact (bits_nat .u32 32 (by decide) wraps_u32 x y hx hy).1), rfl⟩
theorem result_11 (hx : x < 4294967296) (hy : y < 4294967296) (hm : imm < 4294967296) : Calls Tryd.prog 29 #[.int .i64 11, .int .u32 (x : Nat), .int .u32 (y : Nat), .int .u32 (imm : Nat)] w fun e w' => e = .returned (.int .u32 (res 11 x y imm : Nat)) ∧ w' = w := by
  go_enter Tryd.func29, Tryd.ntmps29
  go_wp2
  go_ret
  exact ⟨ret_u32 (by exact (bits_nat .u32 32 (by decide) wraps_u32 x y hx hy).2), rfl⟩
theorem result_12 (hx : x < 4294967296) (hy : y < 4294967296) (hm : imm < 4294967296) : Calls Tryd.prog 29 #[.int .i64 12, .int .u32 (x : Nat), .int .u32 (y : Nat), .int .u32 (imm : Nat)] w fun e w' => e = .returned (.int .u32 (res 12 x y imm : Nat)) ∧ w' = w := by
  go_enter Tryd.func29, Tryd.ntmps29
  go_wp2
  go_ret
  exact ⟨ret_u32 (by exact bits_xor_u32 x y hx hy), rfl⟩
theorem result_13 (hx : x < 4294967296) (hy : y < 4294967296) (hm : imm < 4294967296) : Calls Tryd.prog 29 #[.int .i64 13, .int .u32 (x : Nat), .int .u32 (y : Nat), .int .u32 (imm : Nat)] w fun e w' => e = .returned (.int .u32 (res 13 x y imm : Nat)) ∧ w' = w := by
  go_enter Tryd.func29, Tryd.ntmps29
  go_wp2
  go_ret
  exact ⟨ret_u32 (by exact shl_bits x y), rfl⟩
theorem result_14 (hx : x < 4294967296) (hy : y < 4294967296) (hm : imm < 4294967296) : Calls Tryd.prog 29 #[.int .i64 14, .int .u32 (x : Nat), .int .u32 (y : Nat), .int .u32 (imm : Nat)] w fun e w' => e = .returned (.int .u32 (res 14 x y imm : Nat)) ∧ w' = w := by
  go_enter Tryd.func29, Tryd.ntmps29
  go_wp2
  go_ret
  exact ⟨ret_u32 (by exact shr_bits x y hx), rfl⟩
theorem result_15 (hx : x < 4294967296) (hy : y < 4294967296) (hm : imm < 4294967296) : Calls Tryd.prog 29 #[.int .i64 15, .int .u32 (x : Nat), .int .u32 (y : Nat), .int .u32 (imm : Nat)] w fun e w' => e = .returned (.int .u32 (res 15 x y imm : Nat)) ∧ w' = w := by
  by_cases h : x < y
  · have HR : Hid (res 15 x y imm = 1) := by apply hide; simp only [res]; rw [if_pos h]
    have hd : decide ((x : Int) < (y : Int)) = true := by simp; omega
    have hd2 : decide (x < y) = true := by simp; omega
    clear h
    go_enter Tryd.func29, Tryd.ntmps29
    go_wp2_with fail
    refine (truth_any _ _).mono ?_
    rintro e w1 ⟨rfl, rfl⟩
    go_wp2
    go_ret
    exact ⟨by rw [HR.out]; rfl, rfl⟩
  · have HR : Hid (res 15 x y imm = 0) := by apply hide; simp only [res]; rw [if_neg h]
    have hd : decide ((x : Int) < (y : Int)) = false := by simp; omega
    have hd2 : decide (x < y) = false := by simp; omega
    clear h
    go_enter Tryd.func29, Tryd.ntmps29
    go_wp2_with fail
    refine (truth_any _ _).mono ?_
    rintro e w1 ⟨rfl, rfl⟩
    go_wp2
    go_ret
    exact ⟨by rw [HR.out]; rfl, rfl⟩
theorem result_16 (hx : x < 4294967296) (hy : y < 4294967296) (hm : imm < 4294967296) : Calls Tryd.prog 29 #[.int .i64 16, .int .u32 (x : Nat), .int .u32 (y : Nat), .int .u32 (imm : Nat)] w fun e w' => e = .returned (.int .u32 (res 16 x y imm : Nat)) ∧ w' = w := by
  by_cases h : sg x < sg y
  · have HR : Hid (res 16 x y imm = 1) := by apply hide; simp only [res]; rw [if_pos h]
    have e1 : IntKind.i32.wrap (x : Int) = sg x := by rw [IntKind.wrap_i32]; unfold sg; split <;> omega
    have e2 : IntKind.i32.wrap (y : Int) = sg y := by rw [IntKind.wrap_i32]; unfold sg; split <;> omega
    have hd : decide (sg x < sg y) = true := by simpa using h
    clear h
    go_enter Tryd.func29, Tryd.ntmps29
    go_wp2_with fail
    refine (truth_any _ _).mono ?_
    rintro e w1 ⟨rfl, rfl⟩
    go_wp2
    go_ret
    exact ⟨by rw [HR.out]; rfl, rfl⟩
  · have HR : Hid (res 16 x y imm = 0) := by apply hide; simp only [res]; rw [if_neg h]
    have e1 : IntKind.i32.wrap (x : Int) = sg x := by rw [IntKind.wrap_i32]; unfold sg; split <;> omega
    have e2 : IntKind.i32.wrap (y : Int) = sg y := by rw [IntKind.wrap_i32]; unfold sg; split <;> omega
    have hd : decide (sg x < sg y) = false := by simpa using h
    clear h
    go_enter Tryd.func29, Tryd.ntmps29
    go_wp2_with fail
    refine (truth_any _ _).mono ?_
    rintro e w1 ⟨rfl, rfl⟩
    go_wp2
    go_ret
    exact ⟨by rw [HR.out]; rfl, rfl⟩
theorem result_17 (hx : x < 4294967296) (hy : y < 4294967296) (hm : imm < 4294967296) : Calls Tryd.prog 29 #[.int .i64 17, .int .u32 (x : Nat), .int .u32 (y : Nat), .int .u32 (imm : Nat)] w fun e w' => e = .returned (.int .u32 (res 17 x y imm : Nat)) ∧ w' = w := by
  by_cases h : x = y
  · have HR : Hid (res 17 x y imm = 1) := by apply hide; simp only [res]; rw [if_pos h]
    have hd : (x : Int) = (y : Int) := by omega
    clear h
    go_enter Tryd.func29, Tryd.ntmps29
    go_wp2_with fail
    refine (truth_any _ _).mono ?_
    rintro e w1 ⟨rfl, rfl⟩
    go_wp2
    go_ret
    exact ⟨by rw [HR.out]; rfl, rfl⟩
  · have HR : Hid (res 17 x y imm = 0) := by apply hide; simp only [res]; rw [if_neg h]
    have hd : ¬ (x : Int) = (y : Int) := by omega
    have hd2 : ¬ x = y := by omega
    clear h
    go_enter Tryd.func29, Tryd.ntmps29
    go_wp2_with fail
    refine (truth_any _ _).mono ?_
    rintro e w1 ⟨rfl, rfl⟩
    go_wp2
    go_ret
    exact ⟨by rw [HR.out]; rfl, rfl⟩
theorem target_any (hm : imm < 4294967296) (hn : next < 4294967296) (n : Nat) (hn1 : n < 27) : Calls Tryd.prog 28 #[.int .i64 (n : Int), .int .u32 (x : Nat), .int .u32 (imm : Nat), .int .u32 (next : Nat)] w fun e w' => e = .returned (.int .u32 (tgt n x imm next : Nat)) ∧ w' = w := by
  by_cases h24 : n = 24
  · subst h24
    go_enter Tryd.func28, Tryd.ntmps28
    go_wp2
    go_ret
    exact ⟨rfl, rfl⟩
  · by_cases h21 : n = 21
    · subst h21
      go_enter Tryd.func28, Tryd.ntmps28
      go_wp2
      go_ret
      exact ⟨ret_u32 (by simp [tgt]), rfl⟩
    · by_cases h25 : n = 25
      · subst h25
        go_enter Tryd.func28, Tryd.ntmps28
        go_wp2
        go_ret
        exact ⟨ret_u32 (by simp [tgt]), rfl⟩
      · by_cases h22 : n = 22
        · subst h22
          by_cases h0 : x = 0
          · subst h0
            go_enter Tryd.func28, Tryd.ntmps28
            go_wp2
            go_ret
            exact ⟨ret_u32 (by simp [tgt]), rfl⟩
          · have HR : Hid (tgt 22 x imm next = next) := by apply hide; simp [tgt, h0]
            go_enter Tryd.func28, Tryd.ntmps28
            go_wp2
            go_ret
            exact ⟨by rw [HR.out]; rfl, rfl⟩
        · by_cases h23 : n = 23
          · subst h23
            by_cases h0 : x = 0
            · subst h0
              go_enter Tryd.func28, Tryd.ntmps28
              go_wp2
              go_ret
              exact ⟨rfl, rfl⟩
            · have HR : Hid (tgt 23 x imm next = (next + imm) % 4294967296) := by apply hide; simp [tgt, h0]
              go_enter Tryd.func28, Tryd.ntmps28
              go_wp2
              go_ret
              exact ⟨ret_u32 (by rw [HR.out]; simp), rfl⟩
          · have HR : Hid (tgt n x imm next = next) := by apply hide; simp [tgt, h21, h22, h23, h24, h25]
            go_enter Tryd.func28, Tryd.ntmps28
            go_wp2
            go_ret
            exact ⟨by rw [HR.out]; rfl, rfl⟩
end
end
end Go.Proofs.YtoaplkfmchphbaaDoor

namespace Go.Proofs.YtoaplkfmchphbaaDoor
open Go.RowKit
section
variable {P : Program} {ops : Array Oper} {Q : Exit → Act → World → Prop} {S : World → Prop} {fuel : Nat} {listed : Array Bool} {a : Act} {w : World}
/-- a store of a whole struct, the one operation that may come up -/
theorem held_store (i : Nat) {o : Oper} (hr : Region.ready .any ops listed = [i]) (ho : ops[i]? = some o) (hw : Region.wanted o (yielded ops a.tmps) = true) {ty : TypeId} {x y : Operand} (hop : o.op = .store ty x y) (hd : o.dst = none)
    {b off : Nat} {cells : List Value} (hx : a.eval x = .pointer (some ⟨b, off, none⟩)) (hy : a.eval y = .agg cells.toArray) (ht : w.there b off cells.length) (hi : (P.info? ty).map (·.size) = some cells.length) (h1 : ∀ v ∈ cells, v.oneCell' = true)
    (hS : S (w.setCells b off cells)) (h : wpAnyH P .any ops Q S fuel (listed.setIfInBounds i true) a (w.setCells b off cells)) : wpAnyH P .any ops Q S (fuel + 1) listed a w := by
  refine wpAnyH_ready hr (by simp) (AllReadyH.cons ho (fun K hK => ?_) AllReadyH.nil)
  rw [if_pos hw]
  refine wp_store_mid ty x y hop b off cells.toArray hx hy (by simpa using ht) (by simpa using hi) (all_oneCell_toArray h1) ?_
  rw [hd]
  exact hK.out _ _ hS (fun _ => h)
/-- a call, the one operation that may come up -/
theorem held_call (i : Nat) {o : Oper} (hr : Region.ready .any ops listed = [i]) (ho : ops[i]? = some o) (hw : Region.wanted o (yielded ops a.tmps) = true)
    (h : ∀ K : Act → World → Prop, (∀ a w, S w → wpAnyH P .any ops Q S fuel (listed.setIfInBounds i true) a w → K a w) → Oper.wp P o a w K Q) : wpAnyH P .any ops Q S (fuel + 1) listed a w := by
  refine wpAnyH_ready hr (by simp) (AllReadyH.cons ho (fun K hK => ?_) AllReadyH.nil)
  rw [if_pos hw]
  exact h K (fun a w hS hh => hK.out a w hS (fun _ => hh))
theorem held_load (i : Nat) {o : Oper} (hs : Region.noSelect ops = true) (hf : Region.free .any ops listed i = true) (hr : (Region.ready .any ops listed).contains i = true) (ho : ops[i]? = some o) (hw : Region.wanted o (yielded ops a.tmps) = true) {ty : TypeId} {x : Operand} (hop : o.op = .load ty x)
    {b off : Nat} (cs : List Value) {d : TypeDesc} (hx : a.eval x = .pointer (some ⟨b, off, none⟩)) (hS : ∀ w, S w → w.rangeAt b off cs) (hu : P.underlying ty = some d) (hd : d.isRow = true) (hi : (P.info? ty).map (·.size) = some cs.length)
    (hQ : ∀ c a w, Q (.panic c) (a.put o.dst (.agg cs.toArray)) w → Q (.panic c) a w) (h0 : S w) (h : wpAnyH P .any ops Q S fuel (listed.setIfInBounds i true) (a.put o.dst (.agg cs.toArray)) w) : wpAnyH P .any ops Q S (fuel + 1) listed a w :=
  wpAnyH_take ho hs hf hr hQ (yieldsIf_load_mid hw ty x hop b off hx cs d hS hu hd hi) h0 h
/-- what yields in whatever world -/
theorem held_take (i : Nat) {o : Oper} (v : Value) (hs : Region.noSelect ops = true) (hf : Region.free .any ops listed i = true) (hr : (Region.ready .any ops listed).contains i = true) (ho : ops[i]? = some o) (hw : Region.wanted o (yielded ops a.tmps) = true)
    (hy : ∀ w, S w → (execOp a.eval o).run P w = .ok (.value v) w)
    (hQ : ∀ c a w, Q (.panic c) (a.put o.dst v) w → Q (.panic c) a w) (h0 : S w) (h : wpAnyH P .any ops Q S fuel (listed.setIfInBounds i true) (a.put o.dst v) w) : wpAnyH P .any ops Q S (fuel + 1) listed a w :=
  wpAnyH_take ho hs hf hr hQ (Or.inl ⟨hw, hy⟩) h0 h
end
end Go.Proofs.YtoaplkfmchphbaaDoor

namespace Go.Proofs.YtoaplkfmchphbaaDoor
open Go.RowKit
theorem results_rows2 {P : Program} {fn : Func} {p u : Tmp} {ty tz : TypeId} (h : fn.results = #[.cell p ty, .cell u tz]) (tmps : Array Value) (w : World) (g k : Nat) (t t' : TypeId) (cs ds : Array Value) (d d' : TypeDesc)
    (hp : tmps.getD p undef = .pointer (some ⟨g, 0, none⟩)) (hg : w.heap[g]? = some (.cells cs t (0, 0)))
    (hu : P.underlying ty = some d) (hd : (match d with | .struct _ | .array _ _ => true | _ => false) = true) (hi : (P.info? ty).map (·.size) = some cs.size)
    (hp' : tmps.getD u undef = .pointer (some ⟨k, 0, none⟩)) (hg' : w.heap[k]? = some (.cells ds t' (0, 0)))
    (hu' : P.underlying tz = some d') (hd' : (match d' with | .struct _ | .array _ _ => true | _ => false) = true) (hi' : (P.info? tz).map (·.size) = some ds.size) :
    (results fn tmps).run P w = .ok (.tuple #[.agg cs, .agg ds]) w := by
  have hp1 : tmps[p]?.getD undef = .pointer (some ⟨g, 0, none⟩) := by simpa using hp
  have hp2 : tmps[u]?.getD undef = .pointer (some ⟨k, 0, none⟩) := by simpa using hp'
  simp [results, h, hp1, hp2, asAddr, run_loadVar_row w g t ty cs (0, 0) d hg hu hd hi, run_loadVar_row w k t' tz ds (0, 0) d' hg' hu' hd' hi']
theorem info_eff : (Tryd.prog.info? 34).map (·.size) = some 5 := by kernel_rfl
/-- what a step begins with: three new blocks, then Decode's answer in a fourth -/
structure Bgn (w w4 : World) (R : Nat → Nat) (pc : Nat) : Prop where
  r : Rb w4 w.heap.size R pc
  r1 : Rb w4 (w.heap.size + 1) (fun _ => 0) 0
  e : w4.heap[w.heap.size + 2]? = some (.cells #[.int .i64 0, .int .u32 0, .int .i64 0, .int .u32 0, .int .i64 0] 34 (0, 0))
  b : Below w.heap.size w w4
theorem Bgn.new {w w4 : World} {R : Nat → Nat} {pc : Nat} {o2 : Obj} (h2 : o2 = .cells #[.int .i64 0, .int .u32 0, .int .i64 0, .int .u32 0, .int .i64 0] 34)
    (hb : Below (((w.alloc (.cells (rg R pc).toArray 32)).alloc (.cells #[.int .u32 0, .int .u32 0, .int .u32 0, .int .u32 0, .int .u32 0, .int .u32 0, .int .u32 0, .int .u32 0, .int .u32 0] 32)).alloc o2).heap.size (((w.alloc (.cells (rg R pc).toArray 32)).alloc (.cells #[.int .u32 0, .int .u32 0, .int .u32 0, .int .u32 0, .int .u32 0, .int .u32 0, .int .u32 0, .int .u32 0, .int .u32 0] 32)).alloc o2) w4) : Bgn w w4 R pc := by
  rw [rg_zero] at hb
  have r0 := Rb.new w R pc
  have s1 : (w.alloc (.cells (rg R pc).toArray 32)).heap.size = w.heap.size + 1 := by simp
  have r1 := Rb.new (w.alloc (.cells (rg R pc).toArray 32)) (fun _ => 0) 0
  rw [s1] at r1
  generalize hw1 : w.alloc (.cells (rg R pc).toArray 32) = w1 at *
  have b1 : Below w.heap.size w w1 := by rw [← hw1]; exact bel1 _ _
  clear hw1
  have s2 : (w1.alloc (.cells (rg (fun _ => 0) 0).toArray 32)).heap.size = w.heap.size + 2 := by simp [s1]
  have b2 := bel1 w1 (.cells (rg (fun _ => 0) 0).toArray 32)
  generalize hw2 : w1.alloc (.cells (rg (fun _ => 0) 0).toArray 32) = w2 at *
  clear hw2
  have e0 := heap_alloc_last w2 o2
  rw [s2] at e0
  have b3 := bel1 w2 o2
  generalize hw3 : w2.alloc o2 = w3 at *
  have s3 : w3.heap.size = w.heap.size + 3 := by rw [← hw3]; simp [s2]
  clear hw3
  have r0' := ((r0.below b2).below b3).below hb
  have r1' := (r1.below b3).below hb
  refine ⟨r0', r1', ?_, ((b1.trans (b2.mono (by omega))).trans (b3.mono (by omega))).trans (hb.mono (by omega))⟩
  rw [hb.block _ (by omega), e0, h2]
theorem heap_setCells_other (b k : Nat) (hk : k ≠ b) : ∀ (vs : List Value) (o : Nat) (w : World), (w.setCells b o vs).heap[k]? = w.heap[k]?
  | [], _, _ => rfl
  | v :: r, o, w => by
    rw [World.setCells, heap_setCells_other b k hk r (o + 1) _, heap_setCell_other _ _ _ _ hk]
theorem setCells_rest (b : Nat) : ∀ (vs : List Value) (o : Nat) (w : World), (w.setCells b o vs).os = w.os ∧ (w.setCells b o vs).tape = w.tape ∧ (w.setCells b o vs).output = w.output ∧ (w.setCells b o vs).heap.size = w.heap.size
  | [], _, _ => ⟨rfl, rfl, rfl, rfl⟩
  | v :: r, o, w => by
    obtain ⟨h1, h2, h3, h4⟩ := setCells_rest b r (o + 1) (w.setCell ⟨b, o, none⟩ v)
    rw [World.setCells]
    exact ⟨h1, h2, h3, by rw [h4]; simp [World.setCell]⟩
theorem heap_setCells (b t : Nat) : ∀ (vs : List Value) (o : Nat) (w : World) (cs : Array Value), w.heap[b]? = some (.cells cs t (0, 0)) →
    ∃ cs', (w.setCells b o vs).heap[b]? = some (.cells cs' t (0, 0)) ∧ cs'.size = cs.size ∧ ∀ j, j < cs.size → cs'[j]? = if o ≤ j ∧ j < o + vs.length then vs[j - o]? else cs[j]?
  | [], o, w, cs, h => ⟨cs, h, rfl, fun j _ => by rw [if_neg (by simp)]⟩
  | v :: r, o, w, cs, h => by
    obtain ⟨cs', h1, h2, h3⟩ := heap_setCells b t r (o + 1) (w.setCell ⟨b, o, none⟩ v) (cs.setIfInBounds o v) (heap_setCell_same w b o cs t v h)
    refine ⟨cs', by rw [World.setCells]; exact h1, by simpa using h2, fun j hj => ?_⟩
    rw [h3 j (by simpa using hj)]
    by_cases e : j = o
    · subst e
      rw [if_neg (by omega), if_pos (by simp)]
      simp [hj]
    · by_cases e2 : o + 1 ≤ j ∧ j < o + 1 + r.length
      · rw [if_pos e2, if_pos (by simp; omega)]
        rw [show j - o = (j - (o + 1)) + 1 by omega, List.getElem?_cons_succ]
      · rw [if_neg e2, if_neg (by simp; omega)]
        rw [Array.getElem?_setIfInBounds_ne (by omega)]
/-- a block that is written whole -/
theorem setCells_whole {w : World} {b t : Nat} {cs : Array Value} {vs : List Value} (h : w.heap[b]? = some (.cells cs t (0, 0))) (hl : cs.size = vs.length) : (w.setCells b 0 vs).heap[b]? = some (.cells vs.toArray t (0, 0)) := by
  obtain ⟨cs', h1, h2, h3⟩ := heap_setCells b t vs 0 w cs h
  rw [h1]
  congr 2
  apply Array.ext_getElem?
  intro j
  by_cases hj : j < cs.size
  · rw [h3 j hj, if_pos (by omega)]; simp
  · rw [Array.getElem?_eq_none (by omega), Array.getElem?_eq_none (by simp; omega)]
theorem below_setCells {w wr : World} {N g : Nat} (h : Below N w wr) (hg : N ≤ g) (o : Nat) (vs : List Value) : Below N w (wr.setCells g o vs) := by
  obtain ⟨h1, h2, h3, h4⟩ := setCells_rest g vs o wr
  exact ⟨h1.trans h.os, h2.trans h.tape, h3.trans h.output, by rw [h4]; exact h.size, fun k hk => by rw [heap_setCells_other g k (by omega)]; exact h.block k hk⟩
theorem there_of {w : World} {b t : Nat} {cs : Array Value} (h : w.heap[b]? = some (.cells cs t (0, 0))) : w.there b 0 cs.size := fun j hj => by
  rw [Nat.zero_add]
  exact ⟨by rw [cell_of_row _ _ _ _ _ _ h]; simp [hj], frozen_of_row w b j _ _ h⟩
theorem range_of {w : World} {b t : Nat} {cs : List Value} (h : w.heap[b]? = some (.cells cs.toArray t (0, 0))) : w.rangeAt b 0 cs := fun j v hv => by
  rw [Nat.zero_add, cell_of_row _ _ _ _ _ _ h]; simpa using hv
/-- the two blocks of a step's answer, to be written -/
structure Two (w W : World) (N : Nat) : Prop where
  a : Rb W (N + 1) (fun _ => 0) 0
  e : W.heap[N + 1 + 1]? = some (.cells #[.int .i64 0, .int .u32 0, .int .i64 0, .int .u32 0, .int .i64 0] 34 (0, 0))
  b : Below N w W
  s : N ≤ W.heap.size
theorem Two.below {w W W' : World} {N : Nat} (h : Two w W N) (hb : Below W.heap.size W W') : Two w W' N :=
  ⟨h.a.below hb, by rw [hb.block _ (Array.getElem?_eq_some_iff.1 h.e).1]; exact h.e, h.b.trans (hb.mono h.s), Nat.le_trans h.s hb.size⟩
theorem Two.drew {w W : World} {N : Nat} (h : Two w W N) : Two w W.drew N := ⟨⟨h.a.out⟩, h.e, h.b.drew, h.s⟩
theorem Two.setCell {w W : World} {N : Nat} (h : Two w W N) (o : Nat) (v : Value) : Two w (W.setCell ⟨N, o, none⟩ v) N :=
  ⟨h.a.keep (heap_setCell_other _ _ _ _ (by simp)), by rw [heap_setCell_other _ _ _ _ (by simp; omega)]; exact h.e, h.b.setCell (Nat.le_refl _) _, by simpa [World.setCell] using h.s⟩
theorem Two.cells {w W : World} {N : Nat} (h : Two w W N) : (∀ o, o < 9 → W.cell? ⟨N + 1, o, none⟩ = some (.int .u32 0)) ∧ W.cell? ⟨N + 1 + 1, 0, none⟩ = some (.int .i64 0) ∧ W.cell? ⟨N + 1 + 1, 1, none⟩ = some (.int .u32 0) ∧ W.cell? ⟨N + 1 + 1, 2, none⟩ = some (.int .i64 0) ∧ W.cell? ⟨N + 1 + 1, 3, none⟩ = some (.int .u32 0) ∧ W.cell? ⟨N + 1 + 1, 4, none⟩ = some (.int .i64 0) ∧ (∀ o, W.frozen? ⟨N + 1, o, none⟩ = false) ∧ ∀ o, W.frozen? ⟨N + 1 + 1, o, none⟩ = false := by
  refine ⟨fun o ho => ?_, ?_, ?_, ?_, ?_, ?_, fun o => h.a.frz o, fun o => frozen_of_row W _ o _ _ h.e⟩
  · by_cases h8 : o < 8
    · exact h.a.r h8
    · obtain rfl : o = 8 := by omega
      exact h.a.p
  all_goals rw [cell_of_row _ _ _ _ _ _ h.e]; rfl
/-- what is held while the answer is laid down -/
def Sx (N : Nat) (Y : List Value) (W : World) : Prop := W.rangeAt N 0 Y ∧ W.there (N + 1) 0 9 ∧ W.there (N + 1 + 1) 0 5
theorem Two.sx {w W : World} {N : Nat} {R : Nat → Nat} {pc : Nat} (h : Two w W N) (hr : Rb W N R pc) : Sx N (rg R pc) W := by
  have t1 := there_of h.a.out
  have t2 := there_of h.e
  rw [rg_size] at t1
  exact ⟨range_of hr.out, t1, t2⟩
theorem Sx.set1 {W : World} {N : Nat} {Y : List Value} (h : Sx N Y W) (Z : List Value) : Sx N Y (W.setCells (N + 1) 0 Z) :=
  ⟨World.rangeAt_setCells_apart h.1 _ _ _ (.inl (by omega)), World.there_setCells h.2.1 _ _ _, World.there_setCells h.2.2 _ _ _⟩
theorem Sx.set2 {W : World} {N : Nat} {Y : List Value} (h : Sx N Y W) (Z : List Value) : Sx N Y (W.setCells (N + 1 + 1) 0 Z) :=
  ⟨World.rangeAt_setCells_apart h.1 _ _ _ (.inl (by omega)), World.there_setCells h.2.1 _ _ _, World.there_setCells h.2.2 _ _ _⟩
theorem Sx.t1 {W : World} {N : Nat} {Y : List Value} (h : Sx N Y W) {Z : List Value} (hZ : Z.length = 9) : W.there (N + 1) 0 Z.length := by rw [hZ]; exact h.2.1
theorem Sx.t2 {W : World} {N : Nat} {Y : List Value} (h : Sx N Y W) {Z : List Value} (hZ : Z.length = 5) : W.there (N + 1 + 1) 0 Z.length := by rw [hZ]; exact h.2.2
theorem ones5 (a b c d e : Value) (h : [a, b, c, d, e].all (·.oneCell') = true) : ∀ v ∈ [a, b, c, d, e], v.oneCell' = true := by
  intro v hv; exact List.all_eq_true.1 h v hv
theorem info_rgl (R : Nat → Nat) (pc : Nat) : (Tryd.prog.info? 32).map (·.size) = some (rg R pc).length := by rw [rg_len]; exact info_regs
/-- written in the one order or in the other -/
structure Fin2 (w W : World) (N : Nat) (Y X : List Value) : Prop where
  a : W.heap[N + 1]? = some (.cells Y.toArray 32 (0, 0))
  e : W.heap[N + 1 + 1]? = some (.cells X.toArray 34 (0, 0))
  b : Below N w W
theorem Two.fin {w W : World} {N : Nat} (h : Two w W N) (Y X : List Value) (hY : Y.length = 9) (hX : X.length = 5) : Fin2 w ((W.setCells (N + 1) 0 Y).setCells (N + 1 + 1) 0 X) N Y X ∧ Fin2 w ((W.setCells (N + 1 + 1) 0 X).setCells (N + 1) 0 Y) N Y X := by
  have h1 := h.a.out
  have h2 := h.e
  have l1 := rg_size (fun _ => 0) 0
  refine ⟨⟨?_, ?_, below_setCells (below_setCells h.b (by omega) _ _) (by omega) _ _⟩, ⟨?_, ?_, below_setCells (below_setCells h.b (by omega) _ _) (by omega) _ _⟩⟩
  · rw [heap_setCells_other _ _ (by omega)]; exact setCells_whole h1 (by omega)
  · exact setCells_whole (by rw [heap_setCells_other _ _ (by omega)]; exact h2) (by rw [hX]; rfl)
  · exact setCells_whole (by rw [heap_setCells_other _ _ (by omega)]; exact h1) (by omega)
  · rw [heap_setCells_other _ _ (by omega)]; exact setCells_whole h2 (by rw [hX]; rfl)
section
variable (w : World) (R : Nat → Nat) (pc n : Nat)
set_option maxRecDepth 100000 in
set_option maxHeartbeats 1000000 in
theorem exec_trap (hn : n < 4294967296) (hx : isI (parts n) = false) (hO : Ops w) : Calls Tryd.prog 11 #[.agg (rg R pc).toArray, .int .u32 (n : Nat)] w fun e w' => e = .returned (.tuple #[.agg (rg R pc).toArray, .agg #[.int .i64 4, .int .u32 0, .int .i64 0, .int .u32 0, .int .i64 70]]) ∧ Below w.heap.size w w' := by
  have hi : decI n = ⟨0, 0, 0, 0⟩ := (decI_no rfl hx).1
  have he : decE n = 70 := (decI_no rfl hx).2
  have hbO : ∀ w4, Below w.heap.size w w4 → Ops w4 := fun w4 h => hO.below h
  clear hO hx
  go_enter Tryd.func11, Tryd.ntmps11
  go_wp2_with fail
  refine (dec_any _ n hn ?_).mono ?_
  · exact hbO _ (((bel2 w _ _).trans ((bel1 _ _).mono (by simp; omega))))
  rw [hi, he]
  rintro e w4 ⟨rfl, hb⟩
  have hB := Bgn.new rfl hb
  clear hb hi he hbO
  simp only [I.cells]
  obtain ⟨N, hN⟩ : ∃ N, w.heap.size = N := ⟨_, rfl⟩
  have hT : Two w w4 N := by subst hN; exact ⟨hB.r1, hB.e, hB.b, hB.b.size⟩
  have hr : Rb w4 N R pc := by subst hN; exact hB.r
  rw [hN]
  clear hB
  have b5 := bel1 w4 (.cells #[.int .i64 0, .int .i64 0, .int .i64 0, .int .i64 0] 58)
  have HT := hide (hT.below b5)
  have HR := hide (hr.below b5)
  clear hT hr b5
  go_wp2
  generalize w4.alloc (.cells #[.int .i64 0, .int .i64 0, .int .i64 0, .int .i64 0] 58) = w5 at *
  have HF := hide fun W (h : Two w W N) => h.fin (rg R pc) [.int .i64 4, .int .u32 0, .int .i64 0, .int .u32 0, .int .i64 70] (rg_len _ _) rfl
  have hS5 : Sx N (rg R pc) w5.drew := HT.out.drew.sx ⟨HR.out.out⟩
  refine wp_region_held_drew (S := Sx N (rg R pc)) (by kernel_rfl) hS5 (fun hHeld => ?_)
  refine held_load 0 (o := ⟨some 19, _, _, _, _, _⟩) (by kernel_rfl) (by kernel_rfl) (by kernel_rfl) rfl (by rfl) rfl (rg R pc) rfl (fun W h => h.1) Tryd.underlying32 rfl (by rw [rg_len]; exact info_regs) (fun _ _ _ h => h) hHeld ?_
  simp only [Act.put, List.setIfInBounds_toArray, List.set_cons_zero, List.set_cons_succ]
  refine held_take 1 (o := ⟨some 20, _, _, _, _, _⟩) (.int .i64 70) (by kernel_rfl) (by kernel_rfl) (by kernel_rfl) rfl (by rfl) (fun W hSw => by go_simp) (fun _ _ _ h => h) hHeld ?_
  simp only [Act.put, List.setIfInBounds_toArray, List.set_cons_zero, List.set_cons_succ]
  refine held_call 2 (o := ⟨some 21, _, _, _, _, _⟩) (by kernel_rfl) rfl (by rfl) (fun K hK => ?_)
  go_simp
  go_wp2_with (go_at_call 27; refine (trap_any _ _).mono ?_; rintro e w6 ⟨rfl, hb⟩)
  have HT6 := hide (HT.out.drew.below hb)
  have hS6 : Sx N (rg R pc) w6 := HT6.out.sx (Rb.below (w := w5.drew) ⟨HR.out.out⟩ hb)
  clear hb hHeld
  refine hK _ _ hS6 ?_
  clear hK K
  refine held_store 3 (o := ⟨none, _, _, _, _, _⟩) (cells := (rg R pc)) (by kernel_rfl) rfl (by rfl) rfl rfl rfl rfl (hS6.t1 (rg_len _ _)) (info_rgl _ _) (rg_ones _ _) (hS6.set1 _) ?_
  refine held_store 4 (o := ⟨none, _, _, _, _, _⟩) (cells := [.int .i64 4, .int .u32 0, .int .i64 0, .int .u32 0, .int .i64 70]) (by kernel_rfl) rfl (by rfl) rfl rfl rfl rfl ((hS6.set1 _).t2 rfl) info_eff (ones5 _ _ _ _ _ rfl) ((hS6.set1 _).set2 _) ?_
  refine wpAnyH_done (by kernel_rfl) ?_ _
  have hF := (HF.out _ HT6.out).1
  clear hS6 HF HT HR hS5 HT6
  generalize (w6.setCells (N + 1) 0 (rg R pc)).setCells (N + 1 + 1) 0 [.int .i64 4, .int .u32 0, .int .i64 0, .int .u32 0, .int .i64 70] = w7 at *
  have HF := hide hF
  clear hF
  go_wp2
  refine bodyPost_ret (results_rows2 rfl _ _ (N + 1) (N + 1 + 1) 32 34 _ _ _ _ rfl HF.out.a Tryd.underlying32 rfl (info_rg _ _) rfl HF.out.e Tryd.underlying34 rfl info_eff) rfl ?_
  subst hN
  exact ⟨rfl, HF.out.b⟩
end
end Go.Proofs.YtoaplkfmchphbaaDoor
