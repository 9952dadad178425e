import Derived.Test.YtncbbllmhohnkaaDoorUF
namespace Go.Proofs.YtncbbllmhohnkaaDoor
open Go.RowKit
def letN (c : Nat) : Bool := (decide (97 ≤ c) && decide (c ≤ 122)) || (decide (65 ≤ c) && decide (c ≤ 90)) || decide (c = 95)
def digN (c : Nat) : Bool := decide (48 ≤ c) && decide (c ≤ 57)
theorem let_hi {c : Nat} (h : 128 ≤ c) : letN c = false := by simp [letN]; omega
theorem dig_hi {c : Nat} (h : 128 ≤ c) : digN c = false := by simp [digN]; omega
section
variable (w : World)
theorem letter_any (c : Nat) : Calls Tryd.prog 80 #[.int .i32 (c : Int)] w fun e w' => e = .returned (.bool (letN c)) ∧ w' = w := by
  by_cases h1 : 97 ≤ c
  · by_cases h2 : c ≤ 122
    · have a1 : (97 : Int) ≤ c := by omega
      have a2 : (c : Int) ≤ 122 := by omega
      have HV : Hid (letN c = true) := hide (by simp [letN]; omega)
      go_enter Tryd.func80, Tryd.ntmps80
      go_wp2
      go_ret
      exact ⟨by rw [HV.out]; rfl, rfl⟩
    · have a1 : (97 : Int) ≤ c := by omega
      have a2 : ¬ (c : Int) ≤ 122 := by omega
      have a3 : (65 : Int) ≤ c := by omega
      have a4 : ¬ (c : Int) ≤ 90 := by omega
      have a5 : ((c : Int) == 95) = false := by simp; omega
      have HV : Hid (letN c = false) := hide (by simp [letN]; omega)
      go_enter Tryd.func80, Tryd.ntmps80
      go_wp2
      go_ret
      exact ⟨by rw [HV.out]; rfl, rfl⟩
  · have a1 : ¬ (97 : Int) ≤ c := by omega
    by_cases h2 : 65 ≤ c
    · have a3 : (65 : Int) ≤ c := by omega
      by_cases h3 : c ≤ 90
      · have a4 : (c : Int) ≤ 90 := by omega
        have HV : Hid (letN c = true) := hide (by simp [letN]; omega)
        go_enter Tryd.func80, Tryd.ntmps80
        go_wp2
        go_ret
        exact ⟨by rw [HV.out]; rfl, rfl⟩
      · have a4 : ¬ (c : Int) ≤ 90 := by omega
        by_cases h4 : c = 95
        · subst h4
          go_enter Tryd.func80, Tryd.ntmps80
          go_wp2
          go_ret
          exact ⟨rfl, rfl⟩
        · have a5 : ((c : Int) == 95) = false := by simp; omega
          have HV : Hid (letN c = false) := hide (by simp [letN]; omega)
          go_enter Tryd.func80, Tryd.ntmps80
          go_wp2
          go_ret
          exact ⟨by rw [HV.out]; rfl, rfl⟩
    · have a3 : ¬ (65 : Int) ≤ c := by omega
      have a5 : ((c : Int) == 95) = false := by simp; omega
      have HV : Hid (letN c = false) := hide (by simp [letN]; omega)
      go_enter Tryd.func80, Tryd.ntmps80
      go_wp2
      go_ret
      exact ⟨by rw [HV.out]; rfl, rfl⟩
theorem digit1_any (c : Nat) : Calls Tryd.prog 81 #[.int .i32 (c : Int)] w fun e w' => e = .returned (.bool (digN c)) ∧ w' = w := by
  by_cases h1 : 48 ≤ c
  · have a1 : (48 : Int) ≤ c := by omega
    by_cases h2 : c ≤ 57
    · have a2 : (c : Int) ≤ 57 := by omega
      have HV : Hid (digN c = true) := hide (by simp [digN]; omega)
      go_enter Tryd.func81, Tryd.ntmps81
      go_wp2
      go_ret
      exact ⟨by rw [HV.out]; rfl, rfl⟩
    · have a2 : ¬ (c : Int) ≤ 57 := by omega
      have HV : Hid (digN c = false) := hide (by simp [digN]; omega)
      go_enter Tryd.func81, Tryd.ntmps81
      go_wp2
      go_ret
      exact ⟨by rw [HV.out]; rfl, rfl⟩
  · have a1 : ¬ (48 : Int) ≤ c := by omega
    have HV : Hid (digN c = false) := hide (by simp [digN]; omega)
    go_enter Tryd.func81, Tryd.ntmps81
    go_wp2
    go_ret
    exact ⟨by rw [HV.out]; rfl, rfl⟩
def dvN (c : Nat) : Nat := if digN c then c - 48 else if 97 ≤ c ∧ c ≤ 102 then c - 87 else 16
theorem dv_hi {c : Nat} (h : 128 ≤ c) : dvN c = 16 := by unfold dvN; rw [dig_hi h]; simp; omega
theorem digit_any (c : Nat) (hc : c ≤ 1114111) : Calls Tryd.prog 107 #[.int .i32 (c : Int)] w fun e w' => e = .returned (.int .i64 (dvN c : Nat)) ∧ w' = w := by
  have HC := hide hc
  have hD := digit1_any w c
  cases hd : digN c with
  | true =>
    have HV : Hid (dvN c = c - 48) := hide (by simp [dvN, hd])
    have h1 : 48 ≤ c ∧ c ≤ 57 := by simpa [digN] using hd
    have e1 : (c : Int) - 48 = ((c - 48 : Nat) : Int) := by omega
    rw [hd] at hD
    have HD := hide hD
    clear hD hd hc
    go_enter Tryd.func107, Tryd.ntmps107
    go_wp2_with fail
    refine HD.out.mono ?_
    rintro e w1 ⟨rfl, rfl⟩
    go_wp2
    go_ret
    exact ⟨by rw [HV.out]; rfl, rfl⟩
  | false =>
    rw [hd] at hD
    have HD := hide hD
    clear hD
    by_cases h1 : 97 ≤ c ∧ c ≤ 102
    · have HV : Hid (dvN c = c - 87) := hide (by simp [dvN, hd, h1])
      have a1 : (97 : Int) ≤ c := by omega
      have a2 : (c : Int) ≤ 102 := by omega
      have HE : Hid ((c : Int) - 97 + 10 = ((c - 87 : Nat) : Int)) := hide (by omega)
      clear hd hc h1
      go_enter Tryd.func107, Tryd.ntmps107
      go_wp2_with fail
      refine HD.out.mono ?_
      rintro e w1 ⟨rfl, rfl⟩
      go_wp2
      go_ret
      exact ⟨by rw [HV.out, ← HE.out]; rfl, rfl⟩
    · have HV : Hid (dvN c = 16) := hide (by simp [dvN, hd, h1])
      by_cases h2 : 97 ≤ c
      · have a1 : (97 : Int) ≤ c := by omega
        have a2 : ¬ (c : Int) ≤ 102 := by omega
        clear hd hc h1 h2
        go_enter Tryd.func107, Tryd.ntmps107
        go_wp2_with fail
        refine HD.out.mono ?_
        rintro e w1 ⟨rfl, rfl⟩
        go_wp2
        go_ret
        exact ⟨by rw [HV.out]; rfl, rfl⟩
      · have a1 : ¬ (97 : Int) ≤ c := by omega
        clear hd hc h1 h2
        go_enter Tryd.func107, Tryd.ntmps107
        go_wp2_with fail
        refine HD.out.mono ?_
        rintro e w1 ⟨rfl, rfl⟩
        go_wp2
        go_ret
        exact ⟨by rw [HV.out]; rfl, rfl⟩
end
end Go.Proofs.YtncbbllmhohnkaaDoor
