import Derived.Test.YtncbbllmhohnkaaDoorI5
import Derived.Test.YtncbbllmhohnkaaDoorR0
namespace Go.Proofs.YtncbbllmhohnkaaDoor
open Go.RowKit
/-- a word as a two's complement -/
def sg (x : Nat) : Int := if x < 2147483648 then (x : Int) else (x : Int) - 4294967296
/-- what register a becomes -/
def res (op x y imm : Nat) : Nat :=
  match op with
  | 2 => imm
  | 3 => imm * 65536 % 4294967296 + x % 65536
  | 4 => y
  | 5 => (x + y) % 4294967296
  | 6 => (((x : Int) - (y : Int)) % 4294967296).toNat
  | 7 => x * y % 4294967296
  | 8 => x / y
  | 9 => x % y
  | 10 => x &&& y
  | 11 => x ||| y
  | 12 => x ^^^ y
  | 13 => if y < 32 then x * 2 ^ y % 4294967296 else 0
  | 14 => if y < 32 then x / 2 ^ y else 0
  | 15 => if x < y then 1 else 0
  | 16 => if sg x < sg y then 1 else 0
  | 17 => if x = y then 1 else 0
  | 18 => (x + imm) % 4294967296
  | _ => x
/-- where a step goes on -/
def tgt (op x imm next : Nat) : Nat :=
  if op = 24 then x else if op = 21 ∨ op = 25 ∨ (op = 22 ∧ x = 0) ∨ (op = 23 ∧ x ≠ 0) then (next + imm) % 4294967296 else next
section
variable (w : World)
theorem trap_any (c : Int) : Calls Tryd.prog 27 #[.int .i64 c] w fun e w' => e = .returned (.agg #[.int .i64 4, .int .u32 0, .int .i64 0, .int .u32 0, .int .i64 c]) ∧ Below w.heap.size w w' := by
  go_enter Tryd.func27, Tryd.ntmps27
  go_wp2
  exact bodyPost_ret (v := .agg #[.int .i64 4, .int .u32 0, .int .i64 0, .int .u32 0, .int .i64 c]) (by simp [results, Tryd.results27, go_sem]) rfl ⟨rfl, bel1 _ _⟩
theorem truth_any (b : Bool) : Calls Tryd.prog 43 #[.bool b] w fun e w' => e = .returned (.int .u32 (if b then 1 else 0)) ∧ w' = w := by
  cases b
  all_goals
    go_enter Tryd.func43, Tryd.ntmps43
    go_wp2
    go_ret
    exact ⟨rfl, rfl⟩
theorem bits_xor_u32 (a b : Nat) (ha : a < 4294967296) (hb : b < 4294967296) : bits .xor .u32 (a : Int) (b : Int) = ((a ^^^ b : Nat) : Int) := by
  have hx : a ^^^ b < 2 ^ 32 := Nat.xor_lt_two_pow (by omega) (by omega)
  have h1 : (BitVec.ofInt 32 (a : Int)).toNat = a := by rw [BitVec.ofInt_natCast, BitVec.toNat_ofNat]; exact Nat.mod_eq_of_lt (by omega)
  have h2 : (BitVec.ofInt 32 (b : Int)).toNat = b := by rw [BitVec.ofInt_natCast, BitVec.toNat_ofNat]; exact Nat.mod_eq_of_lt (by omega)
  show IntKind.u32.wrap ((BitVec.ofInt 32 (a : Int) ^^^ BitVec.ofInt 32 (b : Int)).toNat : Int) = _
  rw [BitVec.toNat_xor, h1, h2, IntKind.wrap_u32]
  omega
theorem div_word (x y : Nat) (hx : x < 4294967296) : (x : Int) / (y : Int) % 4294967296 = ((x / y : Nat) : Int) := by
  have h := Nat.div_le_self x y
  have e : ((x / y : Nat) : Int) = (x : Int) / (y : Int) := by simp
  rw [← e]
  clear e
  generalize x / y = q at h ⊢
  omega
theorem hi_bits (imm x : Nat) (hx : x < 4294967296) : bits BinOp.or IntKind.u32 ((imm : Int) * 65536 % 4294967296) (bits BinOp.and IntKind.u32 (x : Int) 65535) = (imm : Int) * 65536 % 4294967296 + (x : Int) % 65536 := by
  rw [show (65535 : Int) = 2 ^ 16 - 1 from rfl, u32_mask 16 (by decide) _ (by omega) (by omega)]
  exact bits_join .u32 32 (by decide) wraps_u32 16 _ _ (by omega) (by omega) (by omega) (by omega) (by omega) (by omega)
theorem shl_bits (x y : Nat) : (x : Int) * 2 ^ min y 32 % 4294967296 = ((if y < 32 then x * 2 ^ y % 4294967296 else 0 : Nat) : Int) := by
  by_cases h : y < 32
  · rw [if_pos h, Nat.min_eq_left (by omega)]; simp
  · rw [if_neg h, Nat.min_eq_right (by omega)]; omega
theorem shr_bits (x y : Nat) (hx : x < 4294967296) : (x : Int) / 2 ^ min y 32 = ((if y < 32 then x / 2 ^ y else 0 : Nat) : Int) := by
  by_cases h : y < 32
  · rw [if_pos h, Nat.min_eq_left (by omega)]; simp
  · rw [if_neg h, Nat.min_eq_right (by omega)]; omega
theorem ret_u32 {x y : Int} (h : x = y) : Ending.returned (.int .u32 x) = .returned (.int .u32 y) := by rw [h]
section
variable (x y imm next : Nat)
theorem result_1 : Calls Tryd.prog 29 #[.int .i64 1, .int .u32 (x : Nat), .int .u32 (y : Nat), .int .u32 (imm : Nat)] w fun e w' => e = .returned (.int .u32 (res 1 x y imm : Nat)) ∧ w' = w := by
  go_enter Tryd.func29, Tryd.ntmps29
  go_wp2
  go_ret
  exact ⟨ret_u32 (by rfl), rfl⟩
theorem result_21 : Calls Tryd.prog 29 #[.int .i64 21, .int .u32 (x : Nat), .int .u32 (y : Nat), .int .u32 (imm : Nat)] w fun e w' => e = .returned (.int .u32 (res 21 x y imm : Nat)) ∧ w' = w := by
  go_enter Tryd.func29, Tryd.ntmps29
  go_wp2
  go_ret
  exact ⟨ret_u32 (by rfl), rfl⟩
theorem result_22 : Calls Tryd.prog 29 #[.int .i64 22, .int .u32 (x : Nat), .int .u32 (y : Nat), .int .u32 (imm : Nat)] w fun e w' => e = .returned (.int .u32 (res 22 x y imm : Nat)) ∧ w' = w := by
  go_enter Tryd.func29, Tryd.ntmps29
  go_wp2
  go_ret
  exact ⟨ret_u32 (by rfl), rfl⟩
theorem result_23 : Calls Tryd.prog 29 #[.int .i64 23, .int .u32 (x : Nat), .int .u32 (y : Nat), .int .u32 (imm : Nat)] w fun e w' => e = .returned (.int .u32 (res 23 x y imm : Nat)) ∧ w' = w := by
  go_enter Tryd.func29, Tryd.ntmps29
  go_wp2
  go_ret
  exact ⟨ret_u32 (by rfl), rfl⟩
theorem result_24 : Calls Tryd.prog 29 #[.int .i64 24, .int .u32 (x : Nat), .int .u32 (y : Nat), .int .u32 (imm : Nat)] w fun e w' => e = .returned (.int .u32 (res 24 x y imm : Nat)) ∧ w' = w := by
  go_enter Tryd.func29, Tryd.ntmps29
  go_wp2
  go_ret
  exact ⟨ret_u32 (by rfl), rfl⟩
theorem result_2 : Calls Tryd.prog 29 #[.int .i64 2, .int .u32 (x : Nat), .int .u32 (y : Nat), .int .u32 (imm : Nat)] w fun e w' => e = .returned (.int .u32 (res 2 x y imm : Nat)) ∧ w' = w := by
  go_enter Tryd.func29, Tryd.ntmps29
  go_wp2
  go_ret
  exact ⟨ret_u32 (by rfl), rfl⟩
theorem result_4 : Calls Tryd.prog 29 #[.int .i64 4, .int .u32 (x : Nat), .int .u32 (y : Nat), .int .u32 (imm : Nat)] w fun e w' => e = .returned (.int .u32 (res 4 x y imm : Nat)) ∧ w' = w := by
  go_enter Tryd.func29, Tryd.ntmps29
  go_wp2
  go_ret
  exact ⟨ret_u32 (by rfl), rfl⟩
set_option linter.unusedVariables false
theorem result_5 (hx : x < 4294967296) (hy : y < 4294967296) (hm : imm < 4294967296) : Calls Tryd.prog 29 #[.int .i64 5, .int .u32 (x : Nat), .int .u32 (y : Nat), .int .u32 (imm : Nat)] w fun e w' => e = .returned (.int .u32 (res 5 x y imm : Nat)) ∧ w' = w := by
  go_enter Tryd.func29, Tryd.ntmps29
  go_wp2
  go_ret
  exact ⟨ret_u32 (by simp [res]), rfl⟩
theorem result_6 (hx : x < 4294967296) (hy : y < 4294967296) (hm : imm < 4294967296) : Calls Tryd.prog 29 #[.int .i64 6, .int .u32 (x : Nat), .int .u32 (y : Nat), .int .u32 (imm : Nat)] w fun e w' => e = .returned (.int .u32 (res 6 x y imm : Nat)) ∧ w' = w := by
  go_enter Tryd.func29, Tryd.ntmps29
  go_wp2
  go_ret
  exact ⟨ret_u32 (by simp [res]; omega), rfl⟩
theorem result_7 (hx : x < 4294967296) (hy : y < 4294967296) (hm : imm < 4294967296) : Calls Tryd.prog 29 #[.int .i64 7, .int .u32 (x : Nat), .int .u32 (y : Nat), .int .u32 (imm : Nat)] w fun e w' => e = .returned (.int .u32 (res 7 x y imm : Nat)) ∧ w' = w := by
  go_enter Tryd.func29, Tryd.ntmps29
  go_wp2
  go_ret
  exact ⟨ret_u32 (by simp [res]), rfl⟩
theorem result_8 (hx : x < 4294967296) (hy : y < 4294967296) (hm : imm < 4294967296) (h0 : y ≠ 0) : Calls Tryd.prog 29 #[.int .i64 8, .int .u32 (x : Nat), .int .u32 (y : Nat), .int .u32 (imm : Nat)] w fun e w' => e = .returned (.int .u32 (res 8 x y imm : Nat)) ∧ w' = w := by
  go_enter Tryd.func29, Tryd.ntmps29
  go_wp2
  go_ret
  exact ⟨ret_u32 (by exact div_word x y hx), rfl⟩
theorem result_9 (hx : x < 4294967296) (hy : y < 4294967296) (hm : imm < 4294967296) (h0 : y ≠ 0) : Calls Tryd.prog 29 #[.int .i64 9, .int .u32 (x : Nat), .int .u32 (y : Nat), .int .u32 (imm : Nat)] w fun e w' => e = .returned (.int .u32 (res 9 x y imm : Nat)) ∧ w' = w := by
  go_enter Tryd.func29, Tryd.ntmps29
  go_wp2
  go_ret
  exact ⟨ret_u32 (by simp [res]), rfl⟩
theorem result_18 (hx : x < 4294967296) (hy : y < 4294967296) (hm : imm < 4294967296) : Calls Tryd.prog 29 #[.int .i64 18, .int .u32 (x : Nat), .int .u32 (y : Nat), .int .u32 (imm : Nat)] w fun e w' => e = .returned (.int .u32 (res 18 x y imm : Nat)) ∧ w' = w := by
  go_enter Tryd.func29, Tryd.ntmps29
  go_wp2
  go_ret
  exact ⟨ret_u32 (by simp [res]), rfl⟩
theorem result_3 (hx : x < 4294967296) (hy : y < 4294967296) (hm : imm < 4294967296) : Calls Tryd.prog 29 #[.int .i64 3, .int .u32 (x : Nat), .int .u32 (y : Nat), .int .u32 (imm : Nat)] w fun e w' => e = .returned (.int .u32 (res 3 x y imm : Nat)) ∧ w' = w := by
  go_enter Tryd.func29, Tryd.ntmps29
  go_wp2
  go_ret
  exact ⟨ret_u32 (by simp only [res]; rw [hi_bits imm x hx]; omega), rfl⟩
theorem result_10 (hx : x < 4294967296) (hy : y < 4294967296) (hm : imm < 4294967296) : Calls Tryd.prog 29 #[.int .i64 10, .int .u32 (x : Nat), .int .u32 (y : Nat), .int .u32 (imm : Nat)] w fun e w' => e = .returned (.int .u32 (res 10 x y imm : Nat)) ∧ w' = w := by
  go_enter Tryd.func29, Tryd.ntmps29
  go_wp2
  go_ret
  exact ⟨ret_u32 (by exact (bits_nat .u32 32 (by decide) wraps_u32 x y hx hy).1), rfl⟩
theorem result_11 (hx : x < 4294967296) (hy : y < 4294967296) (hm : imm < 4294967296) : Calls Tryd.prog 29 #[.int .i64 11, .int .u32 (x : Nat), .int .u32 (y : Nat), .int .u32 (imm : Nat)] w fun e w' => e = .returned (.int .u32 (res 11 x y imm : Nat)) ∧ w' = w := by
  go_enter Tryd.func29, Tryd.ntmps29
  go_wp2
  go_ret
  exact ⟨ret_u32 (by exact (bits_nat .u32 32 (by decide) wraps_u32 x y hx hy).2), rfl⟩
theorem result_12 (hx : x < 4294967296) (hy : y < 4294967296) (hm : imm < 4294967296) : Calls Tryd.prog 29 #[.int .i64 12, .int .u32 (x : Nat), .int .u32 (y : Nat), .int .u32 (imm : Nat)] w fun e w' => e = .returned (.int .u32 (res 12 x y imm : Nat)) ∧ w' = w := by
  go_enter Tryd.func29, Tryd.ntmps29
  go_wp2
  go_ret
  exact ⟨ret_u32 (by exact bits_xor_u32 x y hx hy), rfl⟩
theorem result_13 (hx : x < 4294967296) (hy : y < 4294967296) (hm : imm < 4294967296) : Calls Tryd.prog 29 #[.int .i64 13, .int .u32 (x : Nat), .int .u32 (y : Nat), .int .u32 (imm : Nat)] w fun e w' => e = .returned (.int .u32 (res 13 x y imm : Nat)) ∧ w' = w := by
  go_enter Tryd.func29, Tryd.ntmps29
  go_wp2
  go_ret
  exact ⟨ret_u32 (by exact shl_bits x y), rfl⟩
theorem result_14 (hx : x < 4294967296) (hy : y < 4294967296) (hm : imm < 4294967296) : Calls Tryd.prog 29 #[.int .i64 14, .int .u32 (x : Nat), .int .u32 (y : Nat), .int .u32 (imm : Nat)] w fun e w' => e = .returned (.int .u32 (res 14 x y imm : Nat)) ∧ w' = w := by
  go_enter Tryd.func29, Tryd.ntmps29
  go_wp2
  go_ret
  exact ⟨ret_u32 (by exact shr_bits x y hx), rfl⟩
theorem result_15 (hx : x < 4294967296) (hy : y < 4294967296) (hm : imm < 4294967296) : Calls Tryd.prog 29 #[.int .i64 15, .int .u32 (x : Nat), .int .u32 (y : Nat), .int .u32 (imm : Nat)] w fun e w' => e = .returned (.int .u32 (res 15 x y imm : Nat)) ∧ w' = w := by
  by_cases h : x < y
  · have HR : Hid (res 15 x y imm = 1) := by apply hide; simp only [res]; rw [if_pos h]
    have hd : decide ((x : Int) < (y : Int)) = true := by simp; omega
    have hd2 : decide (x < y) = true := by simp; omega
    clear h
    go_enter Tryd.func29, Tryd.ntmps29
    go_wp2_with fail
    refine (truth_any _ _).mono ?_
    rintro e w1 ⟨rfl, rfl⟩
    go_wp2
    go_ret
    exact ⟨by rw [HR.out]; rfl, rfl⟩
  · have HR : Hid (res 15 x y imm = 0) := by apply hide; simp only [res]; rw [if_neg h]
    have hd : decide ((x : Int) < (y : Int)) = false := by simp; omega
    have hd2 : decide (x < y) = false := by simp; omega
    clear h
    go_enter Tryd.func29, Tryd.ntmps29
    go_wp2_with fail
    refine (truth_any _ _).mono ?_
    rintro e w1 ⟨rfl, rfl⟩
    go_wp2
    go_ret
    exact ⟨by rw [HR.out]; rfl, rfl⟩
theorem result_16 (hx : x < 4294967296) (hy : y < 4294967296) (hm : imm < 4294967296) : Calls Tryd.prog 29 #[.int .i64 16, .int .u32 (x : Nat), .int .u32 (y : Nat), .int .u32 (imm : Nat)] w fun e w' => e = .returned (.int .u32 (res 16 x y imm : Nat)) ∧ w' = w := by
  by_cases h : sg x < sg y
  · have HR : Hid (res 16 x y imm = 1) := by apply hide; simp only [res]; rw [if_pos h]
    have e1 : IntKind.i32.wrap (x : Int) = sg x := by rw [IntKind.wrap_i32]; unfold sg; split <;> omega
    have e2 : IntKind.i32.wrap (y : Int) = sg y := by rw [IntKind.wrap_i32]; unfold sg; split <;> omega
    have hd : decide (sg x < sg y) = true := by simpa using h
    clear h
    go_enter Tryd.func29, Tryd.ntmps29
    go_wp2_with fail
    refine (truth_any _ _).mono ?_
    rintro e w1 ⟨rfl, rfl⟩
    go_wp2
    go_ret
    exact ⟨by rw [HR.out]; rfl, rfl⟩
  · have HR : Hid (res 16 x y imm = 0) := by apply hide; simp only [res]; rw [if_neg h]
    have e1 : IntKind.i32.wrap (x : Int) = sg x := by rw [IntKind.wrap_i32]; unfold sg; split <;> omega
    have e2 : IntKind.i32.wrap (y : Int) = sg y := by rw [IntKind.wrap_i32]; unfold sg; split <;> omega
    have hd : decide (sg x < sg y) = false := by simpa using h
    clear h
    go_enter Tryd.func29, Tryd.ntmps29
    go_wp2_with fail
    refine (truth_any _ _).mono ?_
    rintro e w1 ⟨rfl, rfl⟩
    go_wp2
    go_ret
    exact ⟨by rw [HR.out]; rfl, rfl⟩
theorem result_17 (hx : x < 4294967296) (hy : y < 4294967296) (hm : imm < 4294967296) : Calls Tryd.prog 29 #[.int .i64 17, .int .u32 (x : Nat), .int .u32 (y : Nat), .int .u32 (imm : Nat)] w fun e w' => e = .returned (.int .u32 (res 17 x y imm : Nat)) ∧ w' = w := by
  by_cases h : x = y
  · have HR : Hid (res 17 x y imm = 1) := by apply hide; simp only [res]; rw [if_pos h]
    have hd : (x : Int) = (y : Int) := by omega
    clear h
    go_enter Tryd.func29, Tryd.ntmps29
    go_wp2_with fail
    refine (truth_any _ _).mono ?_
    rintro e w1 ⟨rfl, rfl⟩
    go_wp2
    go_ret
    exact ⟨by rw [HR.out]; rfl, rfl⟩
  · have HR : Hid (res 17 x y imm = 0) := by apply hide; simp only [res]; rw [if_neg h]
    have hd : ¬ (x : Int) = (y : Int) := by omega
    have hd2 : ¬ x = y := by omega
    clear h
    go_enter Tryd.func29, Tryd.ntmps29
    go_wp2_with fail
    refine (truth_any _ _).mono ?_
    rintro e w1 ⟨rfl, rfl⟩
    go_wp2
    go_ret
    exact ⟨by rw [HR.out]; rfl, rfl⟩
theorem target_any (hm : imm < 4294967296) (hn : next < 4294967296) (n : Nat) (hn1 : n < 27) : Calls Tryd.prog 28 #[.int .i64 (n : Int), .int .u32 (x : Nat), .int .u32 (imm : Nat), .int .u32 (next : Nat)] w fun e w' => e = .returned (.int .u32 (tgt n x imm next : Nat)) ∧ w' = w := by
  by_cases h24 : n = 24
  · subst h24
    go_enter Tryd.func28, Tryd.ntmps28
    go_wp2
    go_ret
    exact ⟨rfl, rfl⟩
  · by_cases h21 : n = 21
    · subst h21
      go_enter Tryd.func28, Tryd.ntmps28
      go_wp2
      go_ret
      exact ⟨ret_u32 (by simp [tgt]), rfl⟩
    · by_cases h25 : n = 25
      · subst h25
        go_enter Tryd.func28, Tryd.ntmps28
        go_wp2
        go_ret
        exact ⟨ret_u32 (by simp [tgt]), rfl⟩
      · by_cases h22 : n = 22
        · subst h22
          by_cases h0 : x = 0
          · subst h0
            go_enter Tryd.func28, Tryd.ntmps28
            go_wp2
            go_ret
            exact ⟨ret_u32 (by simp [tgt]), rfl⟩
          · have HR : Hid (tgt 22 x imm next = next) := by apply hide; simp [tgt, h0]
            go_enter Tryd.func28, Tryd.ntmps28
            go_wp2
            go_ret
            exact ⟨by rw [HR.out]; rfl, rfl⟩
        · by_cases h23 : n = 23
          · subst h23
            by_cases h0 : x = 0
            · subst h0
              go_enter Tryd.func28, Tryd.ntmps28
              go_wp2
              go_ret
              exact ⟨rfl, rfl⟩
            · have HR : Hid (tgt 23 x imm next = (next + imm) % 4294967296) := by apply hide; simp [tgt, h0]
              go_enter Tryd.func28, Tryd.ntmps28
              go_wp2
              go_ret
              exact ⟨ret_u32 (by rw [HR.out]; simp), rfl⟩
          · have HR : Hid (tgt n x imm next = next) := by apply hide; simp [tgt, h21, h22, h23, h24, h25]
            go_enter Tryd.func28, Tryd.ntmps28
            go_wp2
            go_ret
            exact ⟨by rw [HR.out]; rfl, rfl⟩
end
end
end Go.Proofs.YtncbbllmhohnkaaDoor
