import Derived.Test.YtjhphhcmefeiiaaDoorXB
namespace Go.Proofs.YtjhphhcmefeiiaaDoor
open Go.RowKit
set_option linter.unusedVariables false
theorem mn32 {y : Nat} (h1 : mn y < y) : mn y = 32 := by
  by_cases h : y < 32
  · exfalso; unfold mn at h1; rw [if_pos h] at h1; omega
  · unfold mn; rw [if_neg h]
section
variable (w : World)
/-- what the document's reckoning answers -/
def rk (op : Nat) (x y : Int) : Int :=
  match op with
  | 4 => y
  | 5 => x + y
  | 18 => x + y
  | 6 => x - y
  | 7 => ((x.toNat * y.toNat % 4294967296 : Nat) : Int)
  | 8 => ((x.toNat / y.toNat : Nat) : Int)
  | 9 => ((x.toNat % y.toNat : Nat) : Int)
  | 10 => ((bw 0 x.toNat y.toNat : Nat) : Int)
  | 11 => ((bw 1 x.toNat y.toNat : Nat) : Int)
  | 12 => ((bw 2 x.toNat y.toNat : Nat) : Int)
  | 13 => ((sl x.toNat (mn y.toNat) : Nat) : Int)
  | 14 => ((sr x.toNat (mn y.toNat) : Nat) : Int)
  | 15 => if x < y then 1 else 0
  | 16 => if sg x.toNat < sg y.toNat then 1 else 0
  | _ => if x = y then 1 else 0
set_option maxRecDepth 100000 in
set_option maxHeartbeats 3200000 in
theorem reck_sum (n : Nat) (hn : n = 4 ∨ n = 5 ∨ n = 18 ∨ n = 6) (x y : Int) (hx : 0 ≤ x ∧ x < 4294967296) (hy : -4294967296 < y ∧ y < 4294967296) : Calls Tryd.prog 13 #[.int .i64 (n : Int), .int .i64 x, .int .i64 y] w fun e w' => e = .returned (.tuple #[.int .i64 (rk n x y), .bool true]) ∧ w' = w := by
  have w1 : wrap64 (x + y) = x + y := by unfold wrap64; omega
  have w2 : wrap64 (x - y) = x - y := by unfold wrap64; omega
  rcases hn with rfl | rfl | rfl | rfl
  all_goals
    go_enter Tryd.func13, Tryd.ntmps13
    go_wp2
    refine bodyPost_ret (results_tmp2 rfl _ _ _) rfl ?_
    exact ⟨rfl, rfl⟩
set_option maxRecDepth 100000 in
set_option maxHeartbeats 3200000 in
theorem reck_mul (x y : Nat) (hx : x < 4294967296) (hy : y < 4294967296) : Calls Tryd.prog 13 #[.int .i64 (7 : Int), .int .i64 (x : Int), .int .i64 (y : Int)] w fun e w' => e = .returned (.tuple #[.int .i64 (rk 7 (x : Int) (y : Int)), .bool true]) ∧ w' = w := by
  have HP := hide (rproduct_any w x y hx hy)
  go_enter Tryd.func13, Tryd.ntmps13
  go_wp2_with fail
  refine HP.out.mono ?_
  rintro e w1 ⟨rfl, rfl⟩
  go_wp2
  refine bodyPost_ret (results_tmp2 rfl _ _ _) rfl ?_
  exact ⟨rfl, rfl⟩
set_option maxRecDepth 100000 in
set_option maxHeartbeats 3200000 in
theorem reck_zero (n : Nat) (hn : n = 8 ∨ n = 9) (x : Int) : Calls Tryd.prog 13 #[.int .i64 (n : Int), .int .i64 x, .int .i64 0] w fun e w' => e = .returned (.tuple #[.int .i64 0, .bool false]) ∧ w' = w := by
  rcases hn with rfl | rfl
  all_goals
    go_enter Tryd.func13, Tryd.ntmps13
    go_wp2
    refine bodyPost_ret (results_tmp2 rfl _ _ _) rfl ?_
    exact ⟨rfl, rfl⟩
set_option maxRecDepth 100000 in
set_option maxHeartbeats 3200000 in
theorem reck_div (n : Nat) (x y : Nat) (hx : x < 4294967296) (hy : y < 4294967296) (hn : n = 8 ∨ n = 9) (h0 : y ≠ 0) : Calls Tryd.prog 13 #[.int .i64 (n : Int), .int .i64 (x : Int), .int .i64 (y : Int)] w fun e w' => e = .returned (.tuple #[.int .i64 (rk n (x : Int) (y : Int)), .bool true]) ∧ w' = w := by
  have hne : ¬ (y : Int) = 0 := by omega
  have hne2 : ((y : Int) == 0) = false := by simpa using hne
  have e1 : (x : Int) / (y : Int) = ((x / y : Nat) : Int) := by simp
  have e2 : (x : Int) % (y : Int) = ((x % y : Nat) : Int) := by simp
  have l1 : x / y ≤ x := Nat.div_le_self _ _
  have w1 : wrap64 ((x : Int) / (y : Int)) = (x : Int) / (y : Int) := by rw [e1]; exact small _ (by omega)
  have HE1 := hide e1
  have HE2 := hide e2
  have HW1 := hide w1
  clear e1 e2 l1 w1
  rcases hn with rfl | rfl
  · go_enter Tryd.func13, Tryd.ntmps13
    go_wp2
    refine bodyPost_ret (results_tmp2 rfl _ _ _) rfl ?_
    exact ⟨by show Ending.returned (.tuple #[.int .i64 (wrap64 ((x : Int) / (y : Int))), .bool true]) = _; rw [HW1.out, HE1.out]; rfl, rfl⟩
  · go_enter Tryd.func13, Tryd.ntmps13
    go_wp2
    refine bodyPost_ret (results_tmp2 rfl _ _ _) rfl ?_
    exact ⟨by show Ending.returned (.tuple #[.int .i64 ((x : Int) % (y : Int)), .bool true]) = _; rw [HE2.out]; rfl, rfl⟩
set_option maxRecDepth 100000 in
set_option maxHeartbeats 3200000 in
theorem reck_bits (n : Nat) (x y : Nat) (hx : x < 4294967296) (hy : y < 4294967296) (hn : n = 10 ∨ n = 11 ∨ n = 12) : Calls Tryd.prog 13 #[.int .i64 (n : Int), .int .i64 (x : Int), .int .i64 (y : Int)] w fun e w' => e = .returned (.tuple #[.int .i64 (rk n (x : Int) (y : Int)), .bool true]) ∧ w' = w := by
  rcases hn with rfl | rfl | rfl
  · have HP := hide (rbitwise_any w x y 0 hx hy (by omega))
    go_enter Tryd.func13, Tryd.ntmps13
    go_wp2_with fail
    refine HP.out.mono ?_
    rintro e w1 ⟨rfl, rfl⟩
    go_wp2
    refine bodyPost_ret (results_tmp2 rfl _ _ _) rfl ?_
    exact ⟨rfl, rfl⟩
  · have HP := hide (rbitwise_any w x y 1 hx hy (by omega))
    go_enter Tryd.func13, Tryd.ntmps13
    go_wp2_with fail
    refine HP.out.mono ?_
    rintro e w1 ⟨rfl, rfl⟩
    go_wp2
    refine bodyPost_ret (results_tmp2 rfl _ _ _) rfl ?_
    exact ⟨rfl, rfl⟩
  · have HP := hide (rbitwise_any w x y 2 hx hy (by omega))
    go_enter Tryd.func13, Tryd.ntmps13
    go_wp2_with fail
    refine HP.out.mono ?_
    rintro e w1 ⟨rfl, rfl⟩
    go_wp2
    refine bodyPost_ret (results_tmp2 rfl _ _ _) rfl ?_
    exact ⟨rfl, rfl⟩
set_option maxRecDepth 100000 in
set_option maxHeartbeats 3200000 in
theorem reck_lt (x y : Nat) (hx : x < 4294967296) (hy : y < 4294967296) : Calls Tryd.prog 13 #[.int .i64 (15 : Int), .int .i64 (x : Int), .int .i64 (y : Int)] w fun e w' => e = .returned (.tuple #[.int .i64 (rk 15 (x : Int) (y : Int)), .bool true]) ∧ w' = w := by
  by_cases h : x < y
  · have HP := hide (rtruth_any w true)
    have h1 : (x : Int) < (y : Int) := by omega
    have h2 : decide ((x : Int) < (y : Int)) = true := by simpa using h1
    have h3 : decide (x < y) = true := by simpa using h
    have HR : Hid (rk 15 (x : Int) (y : Int) = 1) := hide (by unfold rk; exact if_pos h1)
    go_enter Tryd.func13, Tryd.ntmps13
    go_wp2_with fail
    refine HP.out.mono ?_
    rintro e w1 ⟨rfl, rfl⟩
    go_wp2
    refine bodyPost_ret (results_tmp2 rfl _ _ _) rfl ?_
    exact ⟨by rw [HR.out]; rfl, rfl⟩
  · have HP := hide (rtruth_any w false)
    have h1 : ¬ (x : Int) < (y : Int) := by omega
    have h2 : decide ((x : Int) < (y : Int)) = false := by simpa using h1
    have h3 : decide (x < y) = false := by simpa using h
    have HR : Hid (rk 15 (x : Int) (y : Int) = 0) := hide (by unfold rk; exact if_neg h1)
    go_enter Tryd.func13, Tryd.ntmps13
    go_wp2_with fail
    refine HP.out.mono ?_
    rintro e w1 ⟨rfl, rfl⟩
    go_wp2
    refine bodyPost_ret (results_tmp2 rfl _ _ _) rfl ?_
    exact ⟨by rw [HR.out]; rfl, rfl⟩
set_option maxRecDepth 100000 in
set_option maxHeartbeats 3200000 in
theorem reck_slt (x y : Nat) (hx : x < 4294967296) (hy : y < 4294967296) : Calls Tryd.prog 13 #[.int .i64 (16 : Int), .int .i64 (x : Int), .int .i64 (y : Int)] w fun e w' => e = .returned (.tuple #[.int .i64 (rk 16 (x : Int) (y : Int)), .bool true]) ∧ w' = w := by
  have HA := hide (rsigned_any w x hx)
  have HB := hide (rsigned_any w y hy)
  by_cases h : sg x < sg y
  · have HP := hide (rtruth_any w true)
    have hdf : decide (sg x < sg y) = true := by simpa using h
    have HR : Hid (rk 16 (x : Int) (y : Int) = 1) := hide (by unfold rk; exact if_pos h)
    generalize sg x = sx at *
    generalize sg y = sy at *
    go_enter Tryd.func13, Tryd.ntmps13
    go_wp2_with fail
    refine HA.out.mono ?_
    rintro e w1 ⟨rfl, rfl⟩
    go_wp2_with fail
    refine HB.out.mono ?_
    rintro e w1 ⟨rfl, rfl⟩
    go_wp2_with fail
    refine HP.out.mono ?_
    rintro e w1 ⟨rfl, rfl⟩
    go_wp2
    refine bodyPost_ret (results_tmp2 rfl _ _ _) rfl ?_
    exact ⟨by rw [HR.out]; rfl, rfl⟩
  · have HP := hide (rtruth_any w false)
    have hdf : decide (sg x < sg y) = false := by simpa using h
    have HR : Hid (rk 16 (x : Int) (y : Int) = 0) := hide (by unfold rk; exact if_neg h)
    generalize sg x = sx at *
    generalize sg y = sy at *
    go_enter Tryd.func13, Tryd.ntmps13
    go_wp2_with fail
    refine HA.out.mono ?_
    rintro e w1 ⟨rfl, rfl⟩
    go_wp2_with fail
    refine HB.out.mono ?_
    rintro e w1 ⟨rfl, rfl⟩
    go_wp2_with fail
    refine HP.out.mono ?_
    rintro e w1 ⟨rfl, rfl⟩
    go_wp2
    refine bodyPost_ret (results_tmp2 rfl _ _ _) rfl ?_
    exact ⟨by rw [HR.out]; rfl, rfl⟩
set_option maxRecDepth 100000 in
set_option maxHeartbeats 3200000 in
theorem reck_eq (x y : Nat) (hx : x < 4294967296) (hy : y < 4294967296) : Calls Tryd.prog 13 #[.int .i64 (17 : Int), .int .i64 (x : Int), .int .i64 (y : Int)] w fun e w' => e = .returned (.tuple #[.int .i64 (rk 17 (x : Int) (y : Int)), .bool true]) ∧ w' = w := by
  by_cases h : x = y
  · subst h
    have HP := hide (rtruth_any w true)
    have hq : ((x : Int) == (x : Int)) = true := by simp
    have HR : Hid (rk 17 (x : Int) (x : Int) = 1) := hide (by unfold rk; exact if_pos rfl)
    go_enter Tryd.func13, Tryd.ntmps13
    go_wp2_with fail
    refine HP.out.mono ?_
    rintro e w1 ⟨rfl, rfl⟩
    go_wp2
    refine bodyPost_ret (results_tmp2 rfl _ _ _) rfl ?_
    exact ⟨by rw [HR.out]; rfl, rfl⟩
  · have HP := hide (rtruth_any w false)
    have hn : ¬ (x : Int) = (y : Int) := by omega
    have hq : ((x : Int) == (y : Int)) = false := by simpa using hn
    have HR : Hid (rk 17 (x : Int) (y : Int) = 0) := hide (by unfold rk; exact if_neg hn)
    go_enter Tryd.func13, Tryd.ntmps13
    go_wp2_with fail
    refine HP.out.mono ?_
    rintro e w1 ⟨rfl, rfl⟩
    go_wp2
    refine bodyPost_ret (results_tmp2 rfl _ _ _) rfl ?_
    exact ⟨by rw [HR.out]; rfl, rfl⟩
set_option maxRecDepth 100000 in
set_option maxHeartbeats 3200000 in
theorem reck_sh (n : Nat) (x y : Nat) (hx : x < 4294967296) (hy : y < 4294967296) (hn : n = 13 ∨ n = 14) : Calls Tryd.prog 13 #[.int .i64 (n : Int), .int .i64 (x : Int), .int .i64 (y : Int)] w fun e w' => e = .returned (.tuple #[.int .i64 (rk n (x : Int) (y : Int)), .bool true]) ∧ w' = w := by
  rcases hn with rfl | rfl
  · go_enter Tryd.func13, Tryd.ntmps13
    go_upto_region 25 with fail
    go_loopw [1, 8] (fun u i wr => ∃ k : Nat, k ≤ mn y ∧ i = .int .i64 (k : Int) ∧ u = .int .i64 ((sl x k : Nat) : Int) ∧ wr = w) (fun _ i _ => 32 - (intOf i).toNat)
    case atStart => exact ⟨0, by omega, rfl, rfl, rfl⟩
    case round =>
    obtain ⟨k, hk, rfl, rfl, rfl⟩ := hrel
    have hmn : mn y ≤ 32 := by unfold mn; split <;> omega
    have hlt := sl_lt hx k
    by_cases hc : k < mn y
    · have h1 : k < y := by unfold mn at hc; split at hc <;> omega
      have e1 : decide ((k : Int) < (y : Int)) = true := by simp; omega
      have e2 : decide ((k : Int) < 32) = true := by simp; omega
      have h3 : (k : Int) < (y : Int) := by omega
      have h4 : (k : Int) < 32 := by omega
      have hs : sl x (k + 1) = sl x k * 2 % 4294967296 := rfl
      obtain ⟨m2, hm2⟩ : ∃ m2, m2 = sl x (k + 1) := ⟨_, rfl⟩
      rw [← hm2] at hs
      have HM2 := hide hm2
      clear hm2
      generalize sl x k = m at *
      have hk1 : k + 1 ≤ mn y := hc
      have HK1 := hide hk1
      clear hk hc h1 hk1
      have HV : Hid (((m : Int) * 2 % 4294967296) = (m2 : Int)) := hide (by rw [hs]; simp)
      clear hs
      go_upto_region 26 with fail
      rw [HV.out]
      clear HV
      go_wp2
      go_roundw
      case rel =>
        first
          | exact ⟨k + 1, HK1.out, by go_num, by rw [HM2.out], by trivial⟩
          | ((repeat apply Exists.intro); refine ⟨?_, rfl⟩; exact ⟨k + 1, HK1.out, by go_num, by rw [HM2.out], by trivial⟩)
      case measure => simp [intOf]; omega
    · obtain rfl : k = mn y := by omega
      have HRk : Hid (rk 13 (x : Int) (y : Int) = ((sl x (mn y) : Nat) : Int)) := hide rfl
      obtain ⟨m, hm⟩ : ∃ m, m = sl x (mn y) := ⟨_, rfl⟩
      rw [← hm] at HRk
      rw [← hm]
      clear hm hlt
      by_cases h1 : mn y < y
      · have hm32 : mn y = 32 := mn32 h1
        have e1 : decide ((32 : Int) < (y : Int)) = true := by simp; omega
        have h3 : (32 : Int) < (y : Int) := by omega
        rw [hm32]
        clear hm32 h1 hk hmn
        go_wp2
        refine bodyPost_ret (results_tmp2 rfl _ _ _) rfl ?_
        exact ⟨by rw [HRk.out]; rfl, rfl⟩
      · have e1 : decide (((mn y : Nat) : Int) < (y : Int)) = false := by simp; omega
        have h3 : ¬ ((mn y : Nat) : Int) < (y : Int) := by omega
        generalize mn y = q at *
        go_wp2
        refine bodyPost_ret (results_tmp2 rfl _ _ _) rfl ?_
        exact ⟨by rw [HRk.out]; rfl, rfl⟩
  · go_enter Tryd.func13, Tryd.ntmps13
    go_upto_region 25 with fail
    go_loopw [1, 8] (fun u i wr => ∃ k : Nat, k ≤ mn y ∧ i = .int .i64 (k : Int) ∧ u = .int .i64 ((sr x k : Nat) : Int) ∧ wr = w) (fun _ i _ => 32 - (intOf i).toNat)
    case atStart => exact ⟨0, by omega, rfl, rfl, rfl⟩
    case round =>
    obtain ⟨k, hk, rfl, rfl, rfl⟩ := hrel
    have hmn : mn y ≤ 32 := by unfold mn; split <;> omega
    have hlt := sr_lt hx k
    by_cases hc : k < mn y
    · have h1 : k < y := by unfold mn at hc; split at hc <;> omega
      have e1 : decide ((k : Int) < (y : Int)) = true := by simp; omega
      have e2 : decide ((k : Int) < 32) = true := by simp; omega
      have h3 : (k : Int) < (y : Int) := by omega
      have h4 : (k : Int) < 32 := by omega
      have hs : sr x (k + 1) = sr x k / 2 := rfl
      obtain ⟨m2, hm2⟩ : ∃ m2, m2 = sr x (k + 1) := ⟨_, rfl⟩
      rw [← hm2] at hs
      have HM2 := hide hm2
      clear hm2
      generalize sr x k = m at *
      have hk1 : k + 1 ≤ mn y := hc
      have HK1 := hide hk1
      clear hk hc h1 hk1
      have HV : Hid (((m : Int) / 2) = (m2 : Int)) := hide (by rw [hs]; simp)
      clear hs
      go_upto_region 26 with fail
      rw [HV.out]
      clear HV
      go_wp2
      go_roundw
      case rel =>
        first
          | exact ⟨k + 1, HK1.out, by go_num, by rw [HM2.out], by trivial⟩
          | ((repeat apply Exists.intro); refine ⟨?_, rfl⟩; exact ⟨k + 1, HK1.out, by go_num, by rw [HM2.out], by trivial⟩)
      case measure => simp [intOf]; omega
    · obtain rfl : k = mn y := by omega
      have HRk : Hid (rk 14 (x : Int) (y : Int) = ((sr x (mn y) : Nat) : Int)) := hide rfl
      obtain ⟨m, hm⟩ : ∃ m, m = sr x (mn y) := ⟨_, rfl⟩
      rw [← hm] at HRk
      rw [← hm]
      clear hm hlt
      by_cases h1 : mn y < y
      · have hm32 : mn y = 32 := mn32 h1
        have e1 : decide ((32 : Int) < (y : Int)) = true := by simp; omega
        have h3 : (32 : Int) < (y : Int) := by omega
        rw [hm32]
        clear hm32 h1 hk hmn
        go_wp2
        refine bodyPost_ret (results_tmp2 rfl _ _ _) rfl ?_
        exact ⟨by rw [HRk.out]; rfl, rfl⟩
      · have e1 : decide (((mn y : Nat) : Int) < (y : Int)) = false := by simp; omega
        have h3 : ¬ ((mn y : Nat) : Int) < (y : Int) := by omega
        generalize mn y = q at *
        go_wp2
        refine bodyPost_ret (results_tmp2 rfl _ _ _) rfl ?_
        exact ⟨by rw [HRk.out]; rfl, rfl⟩
end
end Go.Proofs.YtjhphhcmefeiiaaDoor
