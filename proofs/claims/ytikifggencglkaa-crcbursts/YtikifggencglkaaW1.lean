import Derived.Test.YtikifggencglkaaRows
import Derived.Test.YtikifggencglkaaMath
import Derived.WalkKit
import Derived.WalkSpells
import Derived.WalkLawsBesides
namespace Go.Proofs.Ytikifggencglkaa
open Go.RowKit

theorem hide {p : Prop} (h : p) : Hid p := h
theorem unhide {p : Prop} (h : Hid p) : p := h
theorem ret_int {k : IntKind} {a b : Int} (h : a = b) : Ending.returned (.int k a) = .returned (.int k b) := by rw [h]
theorem ret2_int {k : IntKind} {a b : Int} {v : Value} (h : a = b) : Ending.returned (.tuple #[.int k a, v]) = .returned (.tuple #[.int k b, v]) := by rw [h]
theorem and1 (n : Nat) (h : n < 4294967296) : bits .and .u32 (n : Int) 1 = ((n % 2 : Nat) : Int) := by
  have := u32_and_nat n 1 h (by decide)
  rw [Nat.and_one_is_mod] at this
  exact this
theorem and1_true (n : Nat) (h : n < 4294967296) (h' : n % 2 = 1) : (bits .and .u32 (n : Int) 1 == 1) = true := by
  rw [and1 n h, h']; rfl
theorem and1_false (n : Nat) (h : n < 4294967296) (h' : ¬ n % 2 = 1) : (bits .and .u32 (n : Int) 1 == 1) = false := by
  rw [and1 n h, show n % 2 = 0 by omega]; rfl
theorem xorP (n : Nat) (h : n < 4294967296) : bits .xor .u32 ((n : Int) / 2) 3988292384 = ((n / 2 ^^^ 3988292384 : Nat) : Int) :=
  u32_xor_nat (n / 2) 3988292384 (by omega) (by decide)
theorem xorN (a b : Nat) (h : a < 4294967296) (h' : b < 4294967296) : bits .xor .u32 (a : Int) (b : Int) = ((a ^^^ b : Nat) : Int) :=
  u32_xor_nat a b h h'

set_option maxHeartbeats 400000 in
theorem forth_any (x : Int) (w : World) (h0 : 0 ≤ x) (h1 : x < 4294967296) :
    Calls Try.prog 14 #[.int .u32 x] w fun e w' => e = .returned (.int .u32 (M.fb x.toNat : Nat)) ∧ w' = w := by
  obtain ⟨n, rfl⟩ := Int.eq_ofNat_of_zero_le h0
  rw [Int.toNat_natCast]
  have hn : n < 4294967296 := by omega
  by_cases hb : n % 2 = 1
  · have ht := and1_true n hn hb
    go_enter Try.func14, Try.ntmps14
    go_wp2
    go_ret
    exact ⟨ret_int (by rw [M.fb_odd hb]; exact xorP n hn), rfl⟩
  · have ht := and1_false n hn hb
    go_enter Try.func14, Try.ntmps14
    go_wp2
    go_ret
    exact ⟨ret_int (by rw [M.fb_even hb]; omega), rfl⟩

theorem shr31 (A : Nat) : (A : Int) / 2147483648 = ((A / 2147483648 : Nat) : Int) := by omega
theorem top_true (A : Nat) (h : A / 2147483648 = 1) : ((A : Int) / 2147483648 == 1) = true := by rw [shr31, h]; rfl
theorem top_false (A : Nat) (h : ¬ A / 2147483648 = 1) : ((A : Int) / 2147483648 == 1) = false := by
  rw [shr31]; apply beq_eq_false_iff_ne.2; omega
set_option maxHeartbeats 400000 in
theorem times_any (a b : Int) (w : World) (h0 : 0 ≤ a) (h1 : a < 4294967296) (h2 : 0 ≤ b) (h3 : b < 4294967296) :
    Calls Try.prog 17 #[.int .u32 a, .int .u32 b] w fun e w' => e = .returned (.int .u32 (M.mul a.toNat b.toNat : Nat)) ∧ w' = w := by
  obtain ⟨m, rfl⟩ := Int.eq_ofNat_of_zero_le h0
  obtain ⟨n, rfl⟩ := Int.eq_ofNat_of_zero_le h2
  rw [Int.toNat_natCast, Int.toNat_natCast]
  have hn : n < 4294967296 := by omega
  have hm : m < 4294967296 := by omega
  clear h0 h1 h2 h3
  go_enter Try.func17, Try.ntmps17
  go_wp2
  go_loop [0, 1, 5, 6] (fun a b p i => ∃ k A B P : Nat, k ≤ 32 ∧ i = .int .i64 k ∧ a = .int .u32 A ∧ b = .int .u32 B ∧ p = .int .u32 P ∧ M.TR m n k A B P) (fun _ _ _ i => 32 - (intOf i).toNat)
  case atStart => exact ⟨0, m, n, 0, by omega, rfl, rfl, rfl, rfl, M.TR_0 hm⟩
  case round =>
    obtain ⟨k, A, B, P, hk, rfl, rfl, rfl, rfl, hT⟩ := hrel
    obtain ⟨hA, hB, hP⟩ := M.TR_lt hT hn
    by_cases hlt : k < 32
    · have stepEnd : ∀ (A' B' P' : Int), A' = ((A * 2 % 4294967296 : Nat) : Int) → B' = (M.fb B : Nat) → P' = ((P ^^^ (if A / 2147483648 = 1 then B else 0) : Nat) : Int) →
          ∃ k_1 A_1 B_1 P_1 : Nat, k_1 ≤ 32 ∧ Value.int .i64 ((k : Int) + 1) = .int .i64 k_1 ∧ Value.int .u32 A' = .int .u32 A_1 ∧ Value.int .u32 B' = .int .u32 B_1 ∧ Value.int .u32 P' = .int .u32 P_1 ∧ M.TR m n k_1 A_1 B_1 P_1 := by
        intro A' B' P' ea eb ep
        exact ⟨k + 1, A * 2 % 4294967296, M.fb B, P ^^^ (if A / 2147483648 = 1 then B else 0), by omega, by go_num, by rw [ea], by rw [eb], by rw [ep], M.TR_step hT hlt rfl rfl rfl⟩
      have HSt := hide stepEnd
      clear stepEnd
      by_cases ha : A / 2147483648 = 1
      · have ta := top_true A ha
        by_cases hb : B % 2 = 1
        · have tb := and1_true B hB hb
          go_wp2
          go_round
          case rel => exact (unhide HSt) _ _ _ (by omega) (by rw [M.fb_odd hb]; exact xorP B hB) (by rw [if_pos ha]; exact xorN P B hP hB)
          case measure => simp [intOf]; omega
        · have tb := and1_false B hB hb
          go_wp2
          go_round
          case rel => exact (unhide HSt) _ _ _ (by omega) (by rw [M.fb_even hb]; omega) (by rw [if_pos ha]; exact xorN P B hP hB)
          case measure => simp [intOf]; omega
      · have ta := top_false A ha
        by_cases hb : B % 2 = 1
        · have tb := and1_true B hB hb
          go_wp2
          go_round
          case rel => exact (unhide HSt) _ _ _ (by omega) (by rw [M.fb_odd hb]; exact xorP B hB) (by rw [if_neg ha]; simp)
          case measure => simp [intOf]; omega
        · have tb := and1_false B hB hb
          go_wp2
          go_round
          case rel => exact (unhide HSt) _ _ _ (by omega) (by rw [M.fb_even hb]; omega) (by rw [if_neg ha]; simp)
          case measure => simp [intOf]; omega
    · go_wp2
      go_ret
      obtain rfl : k = 32 := by omega
      exact ⟨ret_int (by rw [M.TR_end hT]), rfl⟩

theorem times_nat (a b : Nat) (w : World) (h1 : a < 4294967296) (h3 : b < 4294967296) :
    Calls Try.prog 17 #[.int .u32 (a : Int), .int .u32 (b : Int)] w fun e w' => e = .returned (.int .u32 (M.mul a b : Nat)) ∧ w' = w :=
  times_any a b w (by omega) (by omega) (by omega) (by omega)

theorem rem2_true (N : Nat) (h : N % 2 = 1) : ((N : Int) % 2 == 1) = true := by apply beq_iff_eq.2; omega
theorem rem2_false (N : Nat) (h : ¬ N % 2 = 1) : ((N : Int) % 2 == 1) = false := by apply beq_eq_false_iff_ne.2; omega
set_option maxHeartbeats 400000 in
theorem power_any (x : Int) (w : World) (h0 : 0 ≤ x) (h1 : x ≤ 1099511627776) :
    Calls Try.prog 16 #[.int .i64 x] w fun e w' => e = .returned (.int .u32 (M.pow8 x.toNat : Nat)) ∧ w' = w := by
  obtain ⟨n, rfl⟩ := Int.eq_ofNat_of_zero_le h0
  rw [Int.toNat_natCast]
  have hn : n ≤ 1099511627776 := by omega
  clear h0 h1
  go_enter Try.func16, Try.ntmps16
  go_wp2
  go_loop [0, 3, 4] (fun a p x => ∃ N P X : Nat, N ≤ 1099511627776 ∧ a = .int .i64 N ∧ p = .int .u32 P ∧ x = .int .u32 X ∧ M.PW n N P X) (fun a _ _ => (intOf a).toNat)
  case atStart => exact ⟨n, 2147483648, 8388608, hn, rfl, rfl, rfl, M.PW_0 n⟩
  case round =>
    obtain ⟨N, P, X, hN, rfl, rfl, rfl, hT⟩ := hrel
    obtain ⟨hP, hX⟩ := M.PW_lt hT
    by_cases hz : 0 < N
    · by_cases ho : N % 2 = 1
      · have to := rem2_true N ho
        have hT' := M.PW_odd hT ho
        go_wp2_with fail
        refine (times_nat P X _ hP hX).mono ?_
        rintro e w' ⟨rfl, rfl⟩
        go_wp2_with fail
        refine (times_nat X X _ hX hX).mono ?_
        rintro e w' ⟨rfl, rfl⟩
        go_wp2
        go_round
        case rel => exact ⟨N / 2, M.mul P X, M.mul X X, by omega, by go_num, rfl, rfl, hT'⟩
        case measure => simp [intOf]; omega
      · have to := rem2_false N ho
        have hT' := M.PW_even hT ho
        go_wp2_with fail
        refine (times_nat X X _ hX hX).mono ?_
        rintro e w' ⟨rfl, rfl⟩
        go_wp2
        go_round
        case rel => exact ⟨N / 2, P, M.mul X X, by omega, by go_num, rfl, rfl, hT'⟩
        case measure => simp [intOf]; omega
    · go_wp2
      go_ret
      obtain rfl : N = 0 := by omega
      exact ⟨ret_int (by rw [M.PW_end hT]), rfl⟩

set_option maxHeartbeats 400000 in
theorem refJoin_yes (a b n : Nat) (w : World) (h1 : a < 4294967296) (h2 : b < 4294967296) (h3 : n ≤ 1099511627776) :
    Calls Try.prog 10 #[.int .u32 (a : Int), .int .u32 (b : Int), .int .i64 (n : Int)] w fun e w' => e = .returned (.tuple #[.int .u32 ((M.over8 n a ^^^ b : Nat) : Int), .int .i64 0]) ∧ w' = w := by
  have hp := M.pow8_lt n
  have ho := M.over8_lt n h1
  have HM := hide (M.mul_pow8 a n h1)
  go_enter Try.func10, Try.ntmps10
  go_wp2_with fail
  refine (power_any n _ (by omega) (by omega)).mono ?_
  rintro e w' ⟨rfl, rfl⟩
  rw [Int.toNat_natCast]
  go_wp2_with fail
  refine (times_nat a (M.pow8 n) _ h1 hp).mono ?_
  rintro e w' ⟨rfl, rfl⟩
  rw [unhide HM]
  go_wp2
  go_ret2
  exact ⟨ret2_int (xorN _ _ ho h2), rfl⟩
set_option maxHeartbeats 400000 in
theorem refJoin_no (a b n : Int) (w : World) (h : n < 0 ∨ 1099511627776 < n) :
    Calls Try.prog 10 #[.int .u32 a, .int .u32 b, .int .i64 n] w fun e w' => e = .returned (.tuple #[.int .u32 0, .int .i64 1]) ∧ w' = w := by
  by_cases hn : n < 0
  · go_enter Try.func10, Try.ntmps10
    go_wp2
    go_ret2
    exact ⟨rfl, rfl⟩
  · have hn' : 1099511627776 < n := by omega
    go_enter Try.func10, Try.ntmps10
    go_wp2
    go_ret2
    exact ⟨rfl, rfl⟩
end Go.Proofs.Ytikifggencglkaa
