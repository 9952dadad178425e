import Derived.Test.YtogpgchfaalikaaSD
namespace Go.Proofs.Ytogpgchfaalikaa
open Go.RowKit

/-- a disk that doesn't act -/
abbrev Dead (D : Dsk) : Prop := D.down = true ∨ (D.armed = true ∧ D.left = 0)
def flr (D : Dsk) : Int := if Dead D then 42 else 0
def flD (D : Dsk) : Dsk := if Dead D then D.off else D.acted.settled yes
/-- how many records lie landed behind a Flush -/
def flM (D : Dsk) (N : Nat) : Nat := if Dead D then N else N + D.c.length
def amr (D : Dsk) (z : Int) : Int := if z < 0 then 1 else if D.down = true then 42 else 0
def amD (D : Dsk) (z : Int) : Dsk := if z < 0 then D else if D.down = true then D else D.arm z.toNat
section
variable {w : World} {R N B : Nat} {D : Dsk} {F : Nat → Prop}
theorem alive {D : Dsk} (h : ¬ Dead D) : D.down = false ∧ (D.armed = true → D.left ≠ 0) := by
  unfold Dead at h
  refine ⟨?_, fun a b => h (.inr ⟨a, b⟩)⟩
  cases hd : D.down
  · rfl
  · exact absurd (.inl hd) h
theorem flush_any (h : DkA B D w F) (ha : D.acts < 1152921504606846976) : Calls Try.prog 87 #[dp B] w fun e w' => e = .returned (.int .i64 (flr D)) ∧ ∃ F', DkA B (flD D) w' F' ∧ Ext F w F' w' := by
  unfold flr flD
  by_cases hn : Dead D
  · refine (flush_no h hn).mono ?_
    rintro e w' ⟨rfl, h1, h2⟩
    rw [if_pos hn, if_pos hn]
    exact ⟨rfl, F, h1, h2⟩
  · refine (flush_ok h (alive hn).1 (alive hn).2 ha).mono ?_
    rintro e w' ⟨rfl, h1⟩
    rw [if_neg hn, if_neg hn]
    exact ⟨rfl, h1⟩
theorem RkA.more (h : RkA R D N w F) {M : Nat} (hM : N ≤ M) : RkA R D M w F := by
  obtain ⟨lv, wv, rl, ds, es, G, h, hn, he⟩ := h
  exact ⟨lv, wv, rl, ds, es, G, h, Nat.le_trans hn hM, he⟩
theorem flushR_any (h : RkA R D N w F) (hN : N ≤ 2000000) (hc : D.c.length ≤ 2000000) (ha : D.acts < 1152921504606846976) : Calls Try.prog 66 #[tp R] w fun e w' => e = .returned (.int .i64 (flr D)) ∧ ∃ F', RkA R (flD D) (flM D N) w' F' ∧ Ext F w F' w' := by
  unfold flr flD flM
  by_cases hn : Dead D
  · refine (flushR_no h hn).mono ?_
    rintro e w' ⟨rfl, h1, h2⟩
    rw [if_pos hn, if_pos hn, if_pos hn]
    exact ⟨rfl, F, h1, h2⟩
  · refine (flushR_ok h hN hc (alive hn).1 (alive hn).2 ha).mono ?_
    rintro e w' ⟨rfl, h1⟩
    rw [if_neg hn, if_neg hn, if_neg hn]
    exact ⟨rfl, h1⟩
theorem arm_any (h : DkA B D w F) (z : Int) (hz : z < 9223372036854775808) : Calls Try.prog 24 #[dp B, .int .i64 z] w fun e w' => e = .returned (.int .i64 (amr D z)) ∧ DkA B (amD D z) w' F ∧ Ext F w F w' := by
  unfold amr amD
  by_cases hn : z < 0
  · refine (arm_neg z hn).mono ?_
    rintro e w' ⟨rfl, rfl⟩
    rw [if_pos hn, if_pos hn]
    exact ⟨rfl, h, Ext.refl _ _⟩
  · rw [if_neg hn, if_neg hn]
    obtain ⟨k, rfl⟩ := Int.eq_ofNat_of_zero_le (show 0 ≤ z by omega)
    cases hd : D.down
    · refine (arm_ok h k (by omega) hd).mono ?_
      rintro e w' ⟨rfl, h1⟩
      exact ⟨rfl, h1⟩
    · refine (arm_down h k hd).mono ?_
      rintro e w' ⟨rfl, rfl⟩
      exact ⟨rfl, h, Ext.refl _ _⟩
theorem armR_two (h : RkA R D N w F) (z : Int) (hz : z < 9223372036854775808) : Calls Try.prog 45 #[tp R, .int .i64 z] w fun e w' => e = .returned (.int .i64 (amr D z)) ∧ RkA R (amD D z) N w' F ∧ Ext F w F w' := by
  unfold amr amD
  refine (armR_any h z hz).mono ?_
  rintro e w' (⟨hn, rfl, rfl⟩ | ⟨hn, hd, rfl, rfl⟩ | ⟨hn, hd, rfl, h1⟩)
  · rw [if_pos hn, if_pos hn]
    exact ⟨rfl, h, Ext.refl _ _⟩
  · have hn' : ¬ z < 0 := by omega
    rw [if_neg hn', if_neg hn', if_pos hd, if_pos hd]
    exact ⟨rfl, h, Ext.refl _ _⟩
  · have hn' : ¬ z < 0 := by omega
    rw [if_neg hn', if_neg hn', hd]
    exact ⟨rfl, h1⟩
end
end Go.Proofs.Ytogpgchfaalikaa
