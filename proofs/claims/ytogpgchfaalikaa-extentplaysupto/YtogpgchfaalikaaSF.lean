import Derived.Test.YtogpgchfaalikaaSE
namespace Go.Proofs.Ytogpgchfaalikaa
open Go.RowKit

def rwr (z : Int) : Int := if 0 ≤ z ∧ z < 1024 then 0 else 40
def rwB (D : Dsk) (z : Int) : List Nat := if 0 ≤ z ∧ z < 1024 then D.M z.toNat else []
theorem ow_nil (w : World) (b : Nat) : Ow w b (.slice none 0 0) [] := ⟨rfl, .inl ⟨rfl, rfl⟩⟩
section
variable {w : World} {K R N M T B : Nat} {D : Dsk} {C : Nat → Cl} {F G : Nat → Prop}
theorem raw_two (h : DkA B D w F) (z : Int) : Calls Try.prog 47 #[dp B, .int .i64 z] w fun e w' => ∃ r, e = .returned (.tuple #[r, .int .i64 (rwr z)]) ∧ Ow w' w.heap.size r (rwB D z) ∧ Below w.heap.size w w' := by
  unfold rwr rwB
  by_cases hz : 0 ≤ z ∧ z < 1024
  · rw [if_pos hz, if_pos hz]
    obtain ⟨k, rfl⟩ := Int.eq_ofNat_of_zero_le hz.1
    exact raw_ok h k (by omega)
  · rw [if_neg hz, if_neg hz]
    refine (raw_out B z w (by omega)).mono ?_
    rintro e w' ⟨rfl, rfl⟩
    exact ⟨_, rfl, ow_nil _ _, Below.refl _ _⟩
theorem rawR_two (h : RkA R D N w F) (hN : N ≤ 4000000) (z : Int) : Calls Try.prog 48 #[tp R, .int .i64 z] w fun e w' => ∃ r, e = .returned (.tuple #[r, .int .i64 (rwr z)]) ∧ Ow w' w.heap.size r (rwB D z) ∧ Below w.heap.size w w' := by
  unfold rwr rwB
  by_cases hz : 0 ≤ z ∧ z < 1024
  · rw [if_pos hz, if_pos hz]
    obtain ⟨k, rfl⟩ := Int.eq_ofNat_of_zero_le hz.1
    exact rawR_ok h hN k (by omega)
  · rw [if_neg hz, if_neg hz]
    refine (rawR_out z (by omega)).mono ?_
    rintro e w' ⟨rfl, rfl⟩
    exact ⟨_, rfl, ow_nil _ _, Below.refl _ _⟩

/-- what a table's Read answers -/
def rdr (C : Nat → Cl) (D : Dsk) (z s : Int) : Int := if (loc C z s).2 ≠ 0 then (loc C z s).2 else if D.down = true then 42 else 0
def rdB (C : Nat → Cl) (D : Dsk) (z s : Int) : List Nat := if (loc C z s).2 ≠ 0 then [] else if D.down = true then [] else D.seen (z.toNat * 32 + s.toNat)
theorem loc_yes {z s : Int} (h : ¬ (loc C z s).2 ≠ 0) : ∃ n k : Nat, z = (n : Int) ∧ s = (k : Int) ∧ n < 32 ∧ k < 32 ∧ 0 < (C n).ho := by
  have h : (loc C z s).2 = 0 := by simpa using h
  unfold loc at h
  cases hc : isCl C z
  · simp [hc] at h
  · obtain ⟨n, hn, rfl, h0⟩ := isCl_yes hc
    by_cases hs : 0 ≤ s ∧ s < 32
    · obtain ⟨k, rfl⟩ := Int.eq_ofNat_of_zero_le hs.1
      exact ⟨n, k, rfl, rfl, hn, by omega, h0⟩
    · simp [hc, hs] at h
theorem readE_two (h : Tb w T (dvB B) C) (hd : DkA B D w F) (z s : Int) : Calls Try.prog 17 #[tp T, .int .i64 z, .int .i64 s] w fun e w' => ∃ r, e = .returned (.tuple #[r, .int .i64 (rdr C D z s)]) ∧ Ow w' w.heap.size r (rdB C D z s) ∧ Below w.heap.size w w' := by
  unfold rdr rdB
  by_cases hl : (loc C z s).2 ≠ 0
  · rw [if_pos hl, if_pos hl]
    refine (readE_no _ _ _ _ h z s hl).mono ?_
    rintro e w' ⟨rfl, rfl⟩
    exact ⟨_, rfl, ow_nil _ _, Below.refl _ _⟩
  · rw [if_neg hl, if_neg hl]
    obtain ⟨n, k, rfl, rfl, hn, hk, h0⟩ := loc_yes hl
    cases hw : D.down
    · exact readE_ok h hd n k hn hk h0 hw
    · refine (readE_via _ _ _ _ h n k _ hn hk h0 rfl (fun r x w' => x = 42 ∧ Ow w' w.heap.size r [] ∧ Below w.heap.size w w') ((read_down hd (n * 32 + k) (by omega) hw).mono ?_)).mono ?_
      · rintro e w' ⟨rfl, rfl⟩
        exact ⟨_, _, rfl, rfl, ow_nil _ _, Below.refl _ _⟩
      · rintro e w' ⟨r, x, rfl, rfl, h1⟩
        exact ⟨_, rfl, h1⟩
theorem readK_two (h : TkA K R C N w F) (hN : N ≤ 2000000) (hr : RkA R D M w G) (hM : M ≤ 4000000) (hc : D.c.length ≤ 4000000) (z s : Int) : Calls Try.prog 41 #[tp K, .int .i64 z, .int .i64 s] w fun e w' => ∃ r, e = .returned (.tuple #[r, .int .i64 (rdr C D z s)]) ∧ Ow w' w.heap.size r (rdB C D z s) ∧ Below w.heap.size w w' := by
  unfold rdr rdB
  by_cases hl : (loc C z s).2 ≠ 0
  · rw [if_pos hl, if_pos hl]
    refine (readK_no h (by omega) z s hl).mono ?_
    rintro e w' ⟨rfl, rfl⟩
    exact ⟨_, rfl, ow_nil _ _, Below.refl _ _⟩
  · rw [if_neg hl, if_neg hl]
    obtain ⟨n, k, rfl, rfl, hn, hk, h0⟩ := loc_yes hl
    cases hw : D.down
    · refine (readK_via h (by omega) n k _ hn hk h0 rfl (fun r x w' => x = 0 ∧ Ow w' w.heap.size r (D.seen (n * 32 + k)) ∧ Below w.heap.size w w') ((readR_ok hr hM hc (n * 32 + k) (by omega) hw).mono ?_)).mono ?_
      · rintro e w' ⟨r, rfl, h1⟩
        exact ⟨_, _, rfl, rfl, h1⟩
      · rintro e w' ⟨r, x, rfl, rfl, h1⟩
        exact ⟨_, rfl, h1⟩
    · refine (readK_via h (by omega) n k _ hn hk h0 rfl (fun r x w' => x = 42 ∧ Ow w' w.heap.size r [] ∧ Below w.heap.size w w') ((readR_down hr (n * 32 + k) (by omega) hw).mono ?_)).mono ?_
      · rintro e w' ⟨rfl, rfl⟩
        exact ⟨_, _, rfl, rfl, ow_nil _ _, Below.refl _ _⟩
      · rintro e w' ⟨r, x, rfl, rfl, h1⟩
        exact ⟨_, rfl, h1⟩
end
end Go.Proofs.Ytogpgchfaalikaa
