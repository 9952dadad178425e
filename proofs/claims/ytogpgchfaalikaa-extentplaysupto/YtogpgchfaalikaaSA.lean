import Derived.Test.YtogpgchfaalikaaS9
namespace Go.Proofs.Ytogpgchfaalikaa
open Go.RowKit

/-- the claims after a Hold, a Drop; their answers -/
def hdC (C : Nat → Cl) (z : Int) : Nat → Cl := if isCl C z = true then put C z.toNat ⟨(C z.toNat).se, (C z.toNat).ho + 1⟩ else C
def hdr (C : Nat → Cl) (z : Int) : Int := if isCl C z = true then 0 else 100
def dpC (C : Nat → Cl) (z : Int) : Nat → Cl := if isCl C z = true then (if (C z.toNat).ho = 1 then put C z.toNat Cl.zero else put C z.toNat ⟨(C z.toNat).se, (C z.toNat).ho - 1⟩) else C
def dpr (C : Nat → Cl) (z : Int) : Bool := isCl C z && decide ((C z.toNat).ho = 1)
theorem isCl_yes {C : Nat → Cl} {z : Int} (h : isCl C z = true) : ∃ n : Nat, n < 32 ∧ z = (n : Int) ∧ 0 < (C n).ho := by
  unfold isCl at h
  simp only [Bool.and_eq_true, decide_eq_true_eq] at h
  obtain ⟨k, rfl⟩ := Int.eq_ofNat_of_zero_le h.1.1
  exact ⟨k, by omega, rfl, by simpa using h.2⟩

section
variable {w : World} {K R N T : Nat} {C : Nat → Cl} {F : Nat → Prop} {dv : Value}
theorem TkA.more (h : TkA K R C N w F) {M : Nat} (hM : N ≤ M) : TkA K R C M w F := by
  obtain ⟨cv, cl, a, b, c, d⟩ := h
  exact ⟨cv, cl, a, b, Nat.le_trans c hM, d⟩
theorem claimK_any (h : TkA K R C N w F) (hN : N ≤ 2000000) (n : Nat) (hn : Low C n) (z s : Int) : Calls Try.prog 57 #[tp K, .int .i64 z, .int .i64 s] w fun e w' =>
    e = .returned (.tuple #[.int .i64 (clr C n z s).1, .int .i64 (clr C n z s).2]) ∧ ∃ F', TkA K R (clC C n z s) (N + 1) w' F' ∧ Ext F w F' w' := by
  have h1 := h.more (Nat.le_succ N)
  by_cases hs : s < 1 ∨ 4611686018427387903 < s
  · refine (claimK_bad K z s w hs).mono ?_
    rintro e w' ⟨rfl, rfl⟩
    simp only [clC, clr, if_pos hs]
    exact ⟨by trivial, F, by simpa using h1, Ext.refl _ _⟩
  · have hs' : 1 ≤ s ∧ s ≤ 4611686018427387903 := by omega
    simp only [clC, clr, if_neg hs, chr]
    by_cases hz : z = -1
    · subst hz
      simp only [if_true]
      by_cases h32 : n < 32
      · refine (claimK_low h hN n hn h32 s hs').mono ?_
        rintro e w' ⟨rfl, hh⟩
        rw [if_neg (by omega)]
        exact ⟨rfl, by simpa using hh⟩
      · obtain rfl : n = 32 := by have := hn.le; omega
        refine (claimK_full h hN hn s hs').mono ?_
        rintro e w' ⟨rfl, rfl⟩
        exact ⟨by trivial, F, by simpa using h1, Ext.refl _ _⟩
    · simp only [if_neg hz]
      by_cases hr : 0 ≤ z ∧ z < 32
      · obtain ⟨k, rfl⟩ := Int.eq_ofNat_of_zero_le hr.1
        have hk : k < 32 := by omega
        simp only [if_neg (show ¬ ¬ (0 ≤ (k : Int) ∧ (k : Int) < 32) by simpa using hr)]
        by_cases h0 : (C k).ho = 0
        · refine (claimK_free h hN k hk h0 s hs').mono ?_
          rintro e w' ⟨rfl, hh⟩
          have : isCl C (k : Int) = false := by rw [isCl_nat C hk]; simp [h0]
          simp only [this]
          exact ⟨rfl, by simpa using hh⟩
        · refine (claimK_taken h hN k hk (by omega) s hs').mono ?_
          rintro e w' ⟨rfl, rfl⟩
          have : isCl C (k : Int) = true := by rw [isCl_nat C hk]; simp; omega
          simp only [this]
          exact ⟨by trivial, F, by simpa using h1, Ext.refl _ _⟩
      · refine (claimK_out K z s w hs' hz (by omega)).mono ?_
        rintro e w' ⟨rfl, rfl⟩
        simp only [if_pos hr]
        exact ⟨by trivial, F, by simpa using h1, Ext.refl _ _⟩
theorem hold_any (h : Tb w T dv C) (z : Int) (hB : ∀ n, (C n).ho < 9223372036854775807) : Calls Try.prog 11 #[tp T, .int .i64 z] w fun e w' => e = .returned (.int .i64 (hdr C z)) ∧ Tb w' T dv (hdC C z) ∧ At w T w' := by
  unfold hdr hdC
  cases hc : isCl C z
  · refine (hold_no _ _ _ _ h z hc).mono ?_
    rintro e w' ⟨rfl, rfl⟩
    exact ⟨rfl, h, At.refl _ _⟩
  · obtain ⟨n, hn, rfl, h0⟩ := isCl_yes hc
    refine (hold_ok _ _ _ _ h n hn _ rfl h0 (hB n)).mono ?_
    rintro e w' ⟨rfl, hh⟩
    exact ⟨rfl, hh⟩
theorem holdK_any (h : TkA K R C N w F) (hN : N ≤ 2000000) (z : Int) (hB : ∀ n, (C n).ho < 9223372036854775807) : Calls Try.prog 58 #[tp K, .int .i64 z] w fun e w' => e = .returned (.int .i64 (hdr C z)) ∧ TkA K R (hdC C z) N w' F ∧ Ext F w F w' := by
  unfold hdr hdC
  cases hc : isCl C z
  · refine (holdK_no h (by omega) z hc).mono ?_
    rintro e w' ⟨rfl, rfl⟩
    exact ⟨rfl, h, Ext.refl _ _⟩
  · obtain ⟨n, hn, rfl, h0⟩ := isCl_yes hc
    refine (holdK_ok h (by omega) n hn _ rfl h0 (hB n)).mono ?_
    rintro e w' ⟨rfl, hh⟩
    exact ⟨rfl, hh⟩
theorem drop_any (h : Tb w T dv C) (z : Int) (hB : ∀ n, (C n).ho < 9223372036854775807) : Calls Try.prog 12 #[tp T, .int .i64 z] w fun e w' => e = .returned (.tuple #[.bool (dpr C z), .int .i64 (hdr C z)]) ∧ Tb w' T dv (dpC C z) ∧ At w T w' := by
  unfold hdr dpC dpr
  cases hc : isCl C z
  · refine (drop_no _ _ _ _ h z hc).mono ?_
    rintro e w' ⟨rfl, rfl⟩
    exact ⟨rfl, h, At.refl _ _⟩
  · obtain ⟨n, hn, rfl, h0⟩ := isCl_yes hc
    by_cases h1 : (C n).ho = 1
    · refine (drop_last _ _ _ _ h n hn h1).mono ?_
      rintro e w' ⟨rfl, hh⟩
      simp [h1]
      exact hh
    · refine (drop_some _ _ _ _ h n hn _ rfl (by omega) (hB n)).mono ?_
      rintro e w' ⟨rfl, hh⟩
      simp [h1]
      exact hh
theorem dropK_any (h : TkA K R C N w F) (hN : N ≤ 2000000) (z : Int) (hB : ∀ n, (C n).ho < 9223372036854775807) : Calls Try.prog 59 #[tp K, .int .i64 z] w fun e w' => e = .returned (.tuple #[.bool (dpr C z), .int .i64 (hdr C z)]) ∧ ∃ F', TkA K R (dpC C z) N w' F' ∧ Ext F w F' w' := by
  unfold hdr dpC dpr
  cases hc : isCl C z
  · refine (dropK_no h (by omega) z hc).mono ?_
    rintro e w' ⟨rfl, rfl⟩
    exact ⟨rfl, F, h, Ext.refl _ _⟩
  · obtain ⟨n, hn, rfl, h0⟩ := isCl_yes hc
    by_cases h1 : (C n).ho = 1
    · refine (dropK_last h hN n hn h1).mono ?_
      rintro e w' ⟨rfl, hh⟩
      simp [h1]
      exact hh
    · refine (dropK_some h (by omega) n hn _ rfl (by omega) (hB n)).mono ?_
      rintro e w' ⟨rfl, hh⟩
      simp [h1]
      exact ⟨F, hh⟩
end
end Go.Proofs.Ytogpgchfaalikaa
