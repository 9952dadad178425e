import Derived.Test.YtohbhhdadcmicaaDoorI1
namespace Go.Proofs.YtohbhhdadcmicaaDoor
open Go.RowKit
/-- what imm is, as the document's own program counts it -/
def kr (n : Nat) : Nat := if kd n = 2 then 1 else if kd n = 1 then 2 else 0
def numB (z : Int) (k : Nat) : Bool := decide (lo k ≤ z) && decide (z ≤ hi k)
section
variable (w : World)
set_option maxHeartbeats 1000000 in
theorem shape_in (n : Nat) (hn : n < 27) : Calls Tryd.prog 21 #[.int .i64 (n : Int)] w fun e w' => e = .returned (.tuple #[.bool (uA n), .bool (uB n), .int .i64 (kr n : Nat)]) ∧ w' = w := by
  have h : n = 0 ∨ n = 1 ∨ n = 2 ∨ n = 3 ∨ n = 4 ∨ n = 5 ∨ n = 6 ∨ n = 7 ∨ n = 8 ∨ n = 9 ∨ n = 10 ∨ n = 11 ∨ n = 12 ∨ n = 13 ∨ n = 14 ∨ n = 15 ∨ n = 16 ∨ n = 17 ∨ n = 18 ∨ n = 19 ∨ n = 20 ∨ n = 21 ∨ n = 22 ∨ n = 23 ∨ n = 24 ∨ n = 25 ∨ n = 26 := by omega
  rcases h with rfl | rfl | rfl | rfl | rfl | rfl | rfl | rfl | rfl | rfl | rfl | rfl | rfl | rfl | rfl | rfl | rfl | rfl | rfl | rfl | rfl | rfl | rfl | rfl | rfl | rfl | rfl
  all_goals
    go_enter Tryd.func21, Tryd.ntmps21
    go_wp2
    go_ret3
    exact ⟨rfl, rfl⟩
theorem shape_out (n : Int) (hn : n < 0 ∨ 27 ≤ n) : Calls Tryd.prog 21 #[.int .i64 n] w fun e w' => e = .returned (.tuple #[.bool false, .bool false, .int .i64 0]) ∧ w' = w := by
  have h2 : ¬ n = 2 := by omega
  have h3 : ¬ n = 3 := by omega
  have h4 : ¬ n = 4 := by omega
  have h5 : ¬ n = 5 := by omega
  have h6 : ¬ n = 6 := by omega
  have h7 : ¬ n = 7 := by omega
  have h8 : ¬ n = 8 := by omega
  have h9 : ¬ n = 9 := by omega
  have h10 : ¬ n = 10 := by omega
  have h11 : ¬ n = 11 := by omega
  have h12 : ¬ n = 12 := by omega
  have h13 : ¬ n = 13 := by omega
  have h14 : ¬ n = 14 := by omega
  have h15 : ¬ n = 15 := by omega
  have h16 : ¬ n = 16 := by omega
  have h17 : ¬ n = 17 := by omega
  have h18 : ¬ n = 18 := by omega
  have h19 : ¬ n = 19 := by omega
  have h20 : ¬ n = 20 := by omega
  have h21 : ¬ n = 21 := by omega
  have h22 : ¬ n = 22 := by omega
  have h23 : ¬ n = 23 := by omega
  have h24 : ¬ n = 24 := by omega
  have h25 : ¬ n = 25 := by omega
  have h26 : ¬ n = 26 := by omega
  clear hn
  go_enter Tryd.func21, Tryd.ntmps21
  go_wp2
  go_ret3
  exact ⟨rfl, rfl⟩
theorem register_any (n : Int) (u : Bool) : Calls Tryd.prog 43 #[.int .i64 n, .bool u] w fun e w' => e = .returned (.bool (fitsB n u)) ∧ w' = w := by
  cases u
  · by_cases h : n = 0
    · subst h
      go_enter Tryd.func43, Tryd.ntmps43
      go_wp2
      go_ret
      exact ⟨rfl, rfl⟩
    · go_enter Tryd.func43, Tryd.ntmps43
      go_wp2
      go_ret
      exact ⟨by simp [fitsB], rfl⟩
  · by_cases h1 : 0 ≤ n
    · by_cases h2 : n ≤ 7
      · go_enter Tryd.func43, Tryd.ntmps43
        go_wp2
        go_ret
        exact ⟨by simp [fitsB]; omega, rfl⟩
      · go_enter Tryd.func43, Tryd.ntmps43
        go_wp2
        go_ret
        exact ⟨by simp [fitsB]; omega, rfl⟩
    · go_enter Tryd.func43, Tryd.ntmps43
      go_wp2
      go_ret
      exact ⟨by simp [fitsB]; omega, rfl⟩
theorem number_any (z : Int) (n : Nat) : Calls Tryd.prog 44 #[.int .i64 z, .int .i64 (kr n : Nat)] w fun e w' => e = .returned (.bool (numB z (kd n))) ∧ w' = w := by
  unfold kr
  rcases kd_le n with e | e | e <;> rw [e]
  · by_cases h : z = 0
    · subst h
      go_enter Tryd.func44, Tryd.ntmps44
      go_wp2
      go_ret
      exact ⟨rfl, rfl⟩
    · go_enter Tryd.func44, Tryd.ntmps44
      go_wp2
      go_ret
      exact ⟨by simp [numB, lo, hi]; first | omega | (intro; omega) | (rw [Bool.eq_iff_iff]; simp; omega), rfl⟩
  · by_cases h1 : 0 ≤ z
    · by_cases h2 : z ≤ 65535
      · go_enter Tryd.func44, Tryd.ntmps44
        go_wp2
        go_ret
        exact ⟨by simp [numB, lo, hi]; first | omega | (intro; omega) | (rw [Bool.eq_iff_iff]; simp; omega), rfl⟩
      · go_enter Tryd.func44, Tryd.ntmps44
        go_wp2
        go_ret
        exact ⟨by simp [numB, lo, hi]; first | omega | (intro; omega) | (rw [Bool.eq_iff_iff]; simp; omega), rfl⟩
    · go_enter Tryd.func44, Tryd.ntmps44
      go_wp2
      go_ret
      exact ⟨by simp [numB, lo, hi]; first | omega | (intro; omega) | (rw [Bool.eq_iff_iff]; simp; omega), rfl⟩
  · by_cases h1 : -32768 ≤ z
    · by_cases h2 : z ≤ 32767
      · go_enter Tryd.func44, Tryd.ntmps44
        go_wp2
        go_ret
        exact ⟨by simp [numB, lo, hi]; first | omega | (intro; omega) | (rw [Bool.eq_iff_iff]; simp; omega), rfl⟩
      · go_enter Tryd.func44, Tryd.ntmps44
        go_wp2
        go_ret
        exact ⟨by simp [numB, lo, hi]; first | omega | (intro; omega) | (rw [Bool.eq_iff_iff]; simp; omega), rfl⟩
    · have hq : numB z 2 = false := by simp [numB, lo]; omega
      rw [hq]
      go_enter Tryd.func44, Tryd.ntmps44
      go_wp2
      go_ret
      exact ⟨rfl, rfl⟩
end
end Go.Proofs.YtohbhhdadcmicaaDoor
