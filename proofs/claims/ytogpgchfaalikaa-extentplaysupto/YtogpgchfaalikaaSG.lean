import Derived.Test.YtogpgchfaalikaaSF
namespace Go.Proofs.Ytogpgchfaalikaa
open Go.RowKit

-- what a table's Write answers, and the disk behind it
def wtr (C : Nat → Cl) (D : Dsk) (z s : Int) (zs : List Nat) : Int := if (loc C z s).2 ≠ 0 then (loc C z s).2 else if zs.length ≠ 128 then 41 else if Dead D then 42 else 0
def wtD (C : Nat → Cl) (D : Dsk) (z s : Int) (zs : List Nat) : Dsk := if (loc C z s).2 ≠ 0 then D else if zs.length ≠ 128 then D else if Dead D then D.off else D.acted.put (z.toNat * 32 + s.toNat) zs
section
variable {w : World} {K R N M T B : Nat} {D : Dsk} {C : Nat → Cl} {F G : Nat → Prop}
theorem writeE_two (h : Tb w T (dvB B) C) (hd : DkA B D w F) (z s : Int) (bs : Nat) (v : Value) (zs : List Nat) (hv : Ow w bs v zs) (hz : zs.length = 128 → Sec zs) (hnF : ∀ b, v.ownBlock = some b → ¬ F b) (ha : D.acts < 1152921504606846976) (hc2 : D.c.length < 1000000000) : Calls Try.prog 15 #[tp T, .int .i64 z, .int .i64 s, v] w fun e w' => e = .returned (.int .i64 (wtr C D z s zs)) ∧ ∃ F', DkA B (wtD C D z s zs) w' F' ∧ Ext F w F' w' := by
  unfold wtr wtD
  by_cases hl : (loc C z s).2 ≠ 0
  · rw [if_pos hl, if_pos hl]
    refine (writeE_no _ _ _ _ h z s v hl).mono ?_
    rintro e w' ⟨rfl, rfl⟩
    exact ⟨rfl, F, hd, Ext.refl _ _⟩
  · rw [if_neg hl, if_neg hl]
    obtain ⟨n, k, rfl, rfl, hn, hk, h0⟩ := loc_yes hl
    by_cases hm : zs.length ≠ 128
    · rw [if_pos hm, if_pos hm]
      obtain ⟨a, c, hva⟩ := own_shape hv
      refine (writeE_via _ _ _ _ h n k _ hn hk h0 rfl v (fun x w' => x = 41 ∧ w' = w) ?_).mono ?_
      · rw [hva]
        refine (write_size B (n * 32 + k) _ c a w (by omega) hm).mono ?_
        rintro e w' ⟨rfl, rfl⟩
        exact ⟨_, rfl, rfl, rfl⟩
      · rintro e w' ⟨x, rfl, rfl, rfl⟩
        exact ⟨rfl, F, hd, Ext.refl _ _⟩
    · rw [if_neg hm, if_neg hm]
      have hm' : zs.length = 128 := by omega
      by_cases hD : Dead D
      · rw [if_pos hD, if_pos hD]
        obtain ⟨a, c, hva⟩ := own_shape hv
        rw [hm'] at hva
        refine (writeE_via _ _ _ _ h n k _ hn hk h0 rfl v (fun x w' => x = 42 ∧ DkA B D.off w' F ∧ Ext F w F w') ?_).mono ?_
        · rw [hva]
          refine (write_no hd (n * 32 + k) c a (by omega) hD).mono ?_
          rintro e w' ⟨rfl, h1⟩
          exact ⟨_, rfl, rfl, h1⟩
        · rintro e w' ⟨x, rfl, rfl, h1, h2⟩
          exact ⟨rfl, F, h1, h2⟩
      · rw [if_neg hD, if_neg hD]
        exact writeE_ok h hd n k hn hk h0 v zs hv.rd (hz hm') hnF (alive hD).1 (alive hD).2 ha hc2
theorem writeK_two (h : TkA K R C N w G) (hN : N ≤ 2000000) (hd : RkA R D M w F) (z s : Int) (bs : Nat) (v : Value) (zs : List Nat) (hv : Ow w bs v zs) (hz : zs.length = 128 → Sec zs) (hnF : ∀ b, v.ownBlock = some b → ¬ F b) (ha : D.acts < 1152921504606846976) (hc2 : D.c.length ≤ 2000000) : Calls Try.prog 43 #[tp K, .int .i64 z, .int .i64 s, v] w fun e w' => e = .returned (.int .i64 (wtr C D z s zs)) ∧ ∃ F', RkA R (wtD C D z s zs) M w' F' ∧ Ext F w F' w' := by
  unfold wtr wtD
  by_cases hl : (loc C z s).2 ≠ 0
  · rw [if_pos hl, if_pos hl]
    refine (writeK_no h (by omega) z s v hl).mono ?_
    rintro e w' ⟨rfl, rfl⟩
    exact ⟨rfl, F, hd, Ext.refl _ _⟩
  · rw [if_neg hl, if_neg hl]
    obtain ⟨n, k, rfl, rfl, hn, hk, h0⟩ := loc_yes hl
    by_cases hm : zs.length ≠ 128
    · rw [if_pos hm, if_pos hm]
      obtain ⟨a, c, hva⟩ := own_shape hv
      refine (writeK_via h (by omega) n k _ hn hk h0 rfl v (fun x w' => x = 41 ∧ w' = w) ?_).mono ?_
      · rw [hva]
        refine (writeR_size (n * 32 + k) _ c a (by omega) hm).mono ?_
        rintro e w' ⟨rfl, rfl⟩
        exact ⟨_, rfl, rfl, rfl⟩
      · rintro e w' ⟨x, rfl, rfl, rfl⟩
        exact ⟨rfl, F, hd, Ext.refl _ _⟩
    · rw [if_neg hm, if_neg hm]
      have hm' : zs.length = 128 := by omega
      by_cases hD : Dead D
      · rw [if_pos hD, if_pos hD]
        obtain ⟨a, c, hva⟩ := own_shape hv
        rw [hm'] at hva
        refine (writeK_via h (by omega) n k _ hn hk h0 rfl v (fun x w' => x = 42 ∧ RkA R D.off M w' F ∧ Ext F w F w') ?_).mono ?_
        · rw [hva]
          refine (writeR_no hd (n * 32 + k) c a (by omega) hD).mono ?_
          rintro e w' ⟨rfl, h1⟩
          exact ⟨_, rfl, rfl, h1⟩
        · rintro e w' ⟨x, rfl, rfl, h1, h2⟩
          exact ⟨rfl, F, h1, h2⟩
      · rw [if_neg hD, if_neg hD]
        refine (writeK_via h (by omega) n k _ hn hk h0 rfl v (fun x w' => x = 0 ∧ ∃ F', RkA R (D.acted.put (n * 32 + k) zs) M w' F' ∧ Ext F w F' w') ((writeR_ok hd (n * 32 + k) v zs (by omega) hv.rd (hz hm') hnF (alive hD).1 (alive hD).2 ha hc2).mono ?_)).mono ?_
        · rintro e w' ⟨rfl, h1⟩
          exact ⟨_, rfl, rfl, h1⟩
        · rintro e w' ⟨x, rfl, rfl, h1⟩
          exact ⟨rfl, h1⟩
end
end Go.Proofs.Ytogpgchfaalikaa
