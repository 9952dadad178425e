import Derived.Test.YtikifggencglkaaW5
namespace Go.Proofs.Ytikifggencglkaa
open Go.RowKit

theorem eight_mp (w : World) :
    Calls Try.prog 13 #[.func (.func 14) #[] #[]] w fun e w' => e = .returned (.agg (arr (mp 8))) ∧ Below w.heap.size w w' := eight_any w

set_option maxHeartbeats 400000 in
theorem join_yes (a b n : Nat) (w : World) (h1 : a < 4294967296) (h2 : b < 4294967296) (h3 : n ≤ 1099511627776) :
    Calls Try.prog 9 #[.int .u32 (a : Int), .int .u32 (b : Int), .int .i64 (n : Int)] w fun e w' => e = .returned (.tuple #[.int .u32 ((M.over8 n a ^^^ b : Nat) : Int), .int .i64 0]) ∧ Below w.heap.size w w' := by
  have ho := M.over8_lt n h1
  go_enter Try.func9, Try.ntmps9
  go_wp2_with fail
  refine (eight_mp _).mono ?_
  rintro e w1 ⟨rfl, hb1⟩
  go_wp2_with fail
  refine (ltimes_any n a _ h1 h3).mono ?_
  rintro e w2 ⟨rfl, hb2⟩
  go_wp2
  go_ret2
  exact ⟨ret2_int (xorN _ _ ho h2), hb1.trans (hb2.mono hb1.size)⟩
set_option maxHeartbeats 400000 in
theorem join_no (a b n : Int) (w : World) (h : n < 0 ∨ 1099511627776 < n) :
    Calls Try.prog 9 #[.int .u32 a, .int .u32 b, .int .i64 n] w fun e w' => e = .returned (.tuple #[.int .u32 0, .int .i64 1]) ∧ w' = w := by
  by_cases hn : n < 0
  · go_enter Try.func9, Try.ntmps9
    go_wp2
    go_ret2
    exact ⟨rfl, rfl⟩
  · have hn' : 1099511627776 < n := by omega
    go_enter Try.func9, Try.ntmps9
    go_wp2
    go_ret2
    exact ⟨rfl, rfl⟩

set_option maxHeartbeats 400000 in
theorem joins_walk (a b n : Int) (w : World) (a0 : 0 ≤ a) (a1 : a < 4294967296) (b0 : 0 ≤ b) (b1 : b < 4294967296) :
    Calls Try.prog 4 #[.int .u32 a, .int .u32 b, .int .i64 n] w fun e w' => e = .returned (.bool true) ∧ Below w.heap.size w w' := by
  obtain ⟨A, rfl⟩ := Int.eq_ofNat_of_zero_le a0
  obtain ⟨B, rfl⟩ := Int.eq_ofNat_of_zero_le b0
  by_cases hn : 0 ≤ n ∧ n ≤ 1099511627776
  · obtain ⟨N, rfl⟩ := Int.eq_ofNat_of_zero_le hn.1
    go_enter Try.func4, Try.ntmps4
    go_wp2_with fail
    refine (join_yes A B N _ (by omega) (by omega) (by omega)).mono ?_
    rintro e w1 ⟨rfl, hb1⟩
    go_wp2_with fail
    refine (refJoin_yes A B N _ (by omega) (by omega) (by omega)).mono ?_
    rintro e w2 ⟨rfl, rfl⟩
    generalize M.over8 N A ^^^ B = R
    go_wp2
    go_ret
    exact ⟨rfl, hb1⟩
  · go_enter Try.func4, Try.ntmps4
    go_wp2_with fail
    refine (join_no A B n _ (by omega)).mono ?_
    rintro e w1 ⟨rfl, rfl⟩
    go_wp2_with fail
    refine (refJoin_no A B n _ (by omega)).mono ?_
    rintro e w2 ⟨rfl, rfl⟩
    go_wp2
    go_ret
    exact ⟨rfl, Below.refl _ _⟩
end Go.Proofs.Ytikifggencglkaa
