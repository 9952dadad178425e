import Derived.Test.YtogpgchfaalikaaX1
namespace Go.Proofs.Ytogpgchfaalikaa
open Go.RowKit

section
variable (w : World) (T : Nat) (dv : Value) (C : Nat → Cl)
/-- is extent z claimed? -/
def isCl (C : Nat → Cl) (z : Int) : Bool := decide (0 ≤ z ∧ z < 32) && decide (0 < (C z.toNat).ho)
theorem isCl_nat (C : Nat → Cl) {n : Nat} (hn : n < 32) : isCl C (n : Int) = decide (0 < (C n).ho) := by
  unfold isCl
  have : (0 : Int) ≤ n ∧ (n : Int) < 32 := by omega
  simp [this]
theorem isCl_out (C : Nat → Cl) {z : Int} (h : ¬ (0 ≤ z ∧ z < 32)) : isCl C z = false := by
  unfold isCl; simp [h]
theorem claimed_any (h : Tb w T dv C) (z : Int) : Calls Try.prog 34 #[tp T, .int .i64 z] w fun e w' => e = .returned (.bool (isCl C z)) ∧ w' = w := by
  have HO := hide (outsideE_any z w)
  by_cases hz : 0 ≤ z ∧ z < 32
  · obtain ⟨n, rfl⟩ := Int.eq_ofNat_of_zero_le hz.1
    have hn : n < 32 := by omega
    have c := h.hol hn
    rw [isCl_nat C hn]
    rw [show (!decide (0 ≤ (n : Int) ∧ (n : Int) < 32)) = false by simp [hz]] at HO
    clear h hz
    generalize (C n).ho = k at *
    go_enter Try.func34, Try.ntmps34
    go_wp2_with fail
    refine HO.out.mono ?_
    rintro e w1 ⟨rfl, rfl⟩
    go_wp2
    go_ret
    exact ⟨rfl, rfl⟩
  · rw [isCl_out C hz]
    rw [show (!decide (0 ≤ z ∧ z < 32)) = true by simp [hz]] at HO
    clear h hz
    go_enter Try.func34, Try.ntmps34
    go_wp2_with fail
    refine HO.out.mono ?_
    rintro e w1 ⟨rfl, rfl⟩
    go_wp2
    go_ret
    exact ⟨rfl, rfl⟩
/-- n is the lowest free one, or 32: none is free -/
structure Low (C : Nat → Cl) (n : Nat) : Prop where
  le : n ≤ 32
  lo : ∀ k, k < n → 0 < (C k).ho
  fr : n < 32 → (C n).ho = 0
theorem low_any (C : Nat → Cl) : ∃ n, Low C n := by
  have : ∀ k, (∃ n, Low C n) ∨ ∀ j, j < k → j < 32 → 0 < (C j).ho := by
    intro k
    induction k with
    | zero => exact .inr (fun j hj => by omega)
    | succ k ih =>
      rcases ih with h | h
      · exact .inl h
      · by_cases hk : k < 32
        · by_cases h0 : (C k).ho = 0
          · exact .inl ⟨k, by omega, fun j hj => h j hj (by omega), fun _ => h0⟩
          · exact .inr (fun j hj h32 => by
              by_cases e : j = k
              · subst e; omega
              · exact h j (by omega) h32)
        · exact .inr (fun j hj h32 => h j (by omega) h32)
  rcases this 32 with h | h
  · exact h
  · exact ⟨32, Nat.le_refl _, fun k hk => h k hk hk, fun h => by omega⟩
/-- what firstFree answers -/
def ffr (n : Nat) : Value := if n = 32 then .tuple #[.int .i64 (-1), .int .i64 2] else .tuple #[.int .i64 (n : Int), .int .i64 0]
theorem firstFree_any (h : Tb w T dv C) (n : Nat) (hn : Low C n) : Calls Try.prog 51 #[tp T] w fun e w' => e = .returned (ffr n) ∧ w' = w := by
  have HC := hide (fun z => claimed_any w T dv C h z)
  have HL := hide hn
  clear h hn
  go_enter Try.func51, Try.ntmps51
  go_wp2
  go_loopw [5] (fun x wr => ∃ k : Nat, k ≤ n ∧ x = .int .i64 (k : Int) ∧ wr = w) (fun x _ => 32 - (intOf x).toNat)
  case atStart => exact ⟨0, by omega, rfl, rfl⟩
  case round =>
    obtain ⟨k, hk, rfl, rfl⟩ := hrel
    by_cases h32 : k < 32
    · have hC := HC.out (k : Int)
      rw [isCl_nat C h32] at hC
      have HC1 := hide hC
      clear hC
      by_cases hlt : k < n
      · rw [show decide (0 < (C k).ho) = true by simp [HL.out.lo k hlt]] at HC1
        go_wp2_with fail
        refine HC1.out.mono ?_
        rintro e w1 ⟨rfl, rfl⟩
        go_wp2
        go_roundw
        case rel => exact ⟨k + 1, by omega, by go_num, by first | rfl | trivial⟩
        case measure => simp [intOf]; omega
      · obtain rfl : k = n := by omega
        rw [show decide (0 < (C k).ho) = false by simp [HL.out.fr h32]] at HC1
        go_wp2_with fail
        refine HC1.out.mono ?_
        rintro e w1 ⟨rfl, rfl⟩
        go_wp2
        go_ret2
        refine ⟨?_, rfl⟩
        unfold ffr
        rw [if_neg (by omega)]
        rfl
    · have hle := HL.out.le
      obtain rfl : k = 32 := by omega
      obtain rfl : n = 32 := by omega
      go_wp2
      go_ret2
      exact ⟨rfl, rfl⟩
/-- what choose answers -/
def chr (C : Nat → Cl) (n : Nat) (z : Int) : Int × Int :=
  if z = -1 then (if n = 32 then (-1, 2) else (n, 0)) else if ¬ (0 ≤ z ∧ z < 32) then (-1, 100) else if isCl C z then (-1, 101) else (z, 0)
theorem ffr_eq (n : Nat) : ffr n = .tuple #[.int .i64 (if n = 32 then ((-1 : Int), (2 : Int)) else ((n : Int), 0)).1, .int .i64 (if n = 32 then ((-1 : Int), (2 : Int)) else ((n : Int), 0)).2] := by
  unfold ffr; split <;> rfl
theorem choose_any (h : Tb w T dv C) (n : Nat) (hn : Low C n) (z : Int) : Calls Try.prog 33 #[tp T, .int .i64 z] w fun e w' => e = .returned (.tuple #[.int .i64 (chr C n z).1, .int .i64 (chr C n z).2]) ∧ w' = w := by
  have HC := hide (claimed_any w T dv C h z)
  have HO := hide (outsideE_any z w)
  have HF := hide (firstFree_any w T dv C h n hn)
  clear h
  unfold chr
  by_cases h1 : z = -1
  · subst h1
    rw [if_pos rfl]
    rw [ffr_eq] at HF
    generalize (if n = 32 then ((-1 : Int), (2 : Int)) else ((n : Int), 0)) = p at *
    go_enter Try.func33, Try.ntmps33
    go_wp2_with fail
    refine HF.out.mono ?_
    rintro e w1 ⟨rfl, rfl⟩
    go_wp2
    go_ret2
    exact ⟨rfl, rfl⟩
  · rw [if_neg h1]
    have hd1 : (z == -1) = false := by simp [h1]
    by_cases h2 : 0 ≤ z ∧ z < 32
    · rw [if_neg (by simpa using h2)]
      rw [show (!decide (0 ≤ z ∧ z < 32)) = false by simp [h2]] at HO
      clear h1 h2
      cases hc : isCl C z
      · rw [hc] at HC
        clear hc
        simp only [Bool.false_eq_true, if_false]
        go_enter Try.func33, Try.ntmps33
        go_wp2_with fail
        refine HO.out.mono ?_
        rintro e w1 ⟨rfl, rfl⟩
        go_wp2_with fail
        refine HC.out.mono ?_
        rintro e w1 ⟨rfl, rfl⟩
        go_wp2
        go_ret2
        exact ⟨rfl, rfl⟩
      · rw [hc] at HC
        clear hc
        simp only [if_true]
        go_enter Try.func33, Try.ntmps33
        go_wp2_with fail
        refine HO.out.mono ?_
        rintro e w1 ⟨rfl, rfl⟩
        go_wp2_with fail
        refine HC.out.mono ?_
        rintro e w1 ⟨rfl, rfl⟩
        go_wp2
        go_ret2
        exact ⟨rfl, rfl⟩
    · rw [if_pos h2]
      rw [show (!decide (0 ≤ z ∧ z < 32)) = true by simp [h2]] at HO
      clear h1 h2
      go_enter Try.func33, Try.ntmps33
      go_wp2_with fail
      refine HO.out.mono ?_
      rintro e w1 ⟨rfl, rfl⟩
      go_wp2
      go_ret2
      exact ⟨rfl, rfl⟩
end
end Go.Proofs.Ytogpgchfaalikaa
