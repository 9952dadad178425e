import Derived.Test.YtngmnlmagbfijabCD
import Derived.BigRegion
import Derived.BigQuiet
namespace Go.Proofs.Ytngmnlmagbfijab
open Go.RowKit
/-- the document's plan as a map -/
def RfF (w : World) (Y : Nat → Prop) (g kd : Nat) (f : Int → Option Kp) (last : Int) (n : Nat) : Prop := ∃ L, RfAt w Y g kd L last ∧ RelR L f ∧ L.length ≤ n
theorem rowP_len (L : List Rw) (k : Int) : (rowP L k).length ≤ L.length + 1 := by
  unfold rowP
  have := pos_le L k
  split
  · split
    · omega
    · simp; omega
  · simp; omega
/-- the pass behind a new weight -/
def capP (kd : Nat) (last v p : Int) : Int := if kd = 2 ∧ last + stp v < p then last + stp v else p
def setD (kd : Nat) (last : Int) (f : Int → Option Kp) (k v : Int) : Int → Option Kp := setF (oneF f k) k (v, capP kd last v (((f k).getD (1, 0, false)).2.1), ((f k).getD (1, 0, false)).2.2)
section
variable (w : World)
set_option maxHeartbeats 4000000 in
theorem rset_bad (g : Nat) (k v : Int) (h : ¬ (1 ≤ k ∧ 1 ≤ v ∧ v ≤ 8)) : Calls Try.prog 12 #[.pointer (some ⟨g, 0, none⟩), .int .i64 k, .int .i64 v] w fun e w' => e = .returned (.int .i64 1) ∧ w' = w := by
  go_enter Try.func12, Try.ntmps12
  by_cases h1 : k < 1
  · clear h
    go_wp2
    go_ret
    exact ⟨rfl, rfl⟩
  · by_cases h2 : v < 1
    · clear h
      go_wp2
      go_ret
      exact ⟨rfl, rfl⟩
    · have h3 : v > 8 := by omega
      clear h
      go_wp2
      go_ret
      exact ⟨rfl, rfl⟩
set_option maxRecDepth 100000 in
set_option maxHeartbeats 16000000 in
theorem rset_ok (g kd n : Nat) (Y : Nat → Prop) (f : Int → Option Kp) (last : Int) (hP : RfF w Y g kd f last n) (k v : Int) (h1 : 1 ≤ k) (h2 : 1 ≤ v) (h3 : v ≤ 8) (hl : n ≤ 4194303) (hla : kd = 2 → 0 ≤ last ∧ last ≤ 4611686018427387904) :
    Calls Try.prog 12 #[.pointer (some ⟨g, 0, none⟩), .int .i64 k, .int .i64 v] w fun e w' => e = .returned (.int .i64 0) ∧ ∃ Y', RfF w' Y' g kd (setD kd last f k v) last (n + 1) ∧ Ext Y w Y' w' := by
  obtain ⟨L, hR, hL, hn⟩ := hP
  have hst := stp_bd h2 h3
  obtain ⟨hrel, r0, hr0, hk0⟩ := hL.row k
  have hlen := rowP_len L k
  have hRow := hide (row_any w g kd Y L last hR k (by omega))
  have HRel := hide (And.intro hrel (And.intro hr0 hk0))
  have HKd : Hid (oneF f k k = some r0.kp) := hide (by have := hrel.val r0 (List.mem_of_getElem? hr0); rw [hk0] at this; exact this)
  have hdiv : (840 : Int).tdiv v = stp v := by unfold stp; rw [Int.tdiv_eq_ediv_of_nonneg (by omega)]
  have hw1 : IntKind.i64.wrap (stp v) = stp v := wi _ (by omega) (by omega)
  have HW2 : Hid (kd = 2 → IntKind.i64.wrap (last + stp v) = last + stp v) := hide (fun e => by have := hla e; exact wi _ (by omega) (by omega))
  clear hla
  have HLn : Hid ((rowP L k).length ≤ n + 1) := hide (by omega)
  clear hrel hr0 hk0 hlen hR hL hn
  go_enter Try.func12, Try.ntmps12
  go_wp2_with fail
  refine hRow.out.mono ?_
  rintro e w1 ⟨rfl, Y1, hR1, hE1⟩
  have HE1 := hide hE1
  obtain ⟨v1, hM⟩ := hR1
  obtain ⟨m, hm⟩ : ∃ m, (rowP L k).length = m := ⟨_, rfl⟩
  obtain ⟨i, hi⟩ : ∃ i, pos L k = i := ⟨_, rfl⟩
  obtain ⟨L1, hL1⟩ : ∃ z, rowP L k = z := ⟨_, rfl⟩
  rw [hL1] at hM hm HLn HRel
  rw [hi] at HRel ⊢
  obtain ⟨a1, c1', rfl⟩ : ∃ a c, v1 = .slice a m c := by
    obtain ⟨a, c, h⟩ := hM.shape
    exact ⟨a, c, by rw [h, hm]⟩
  obtain ⟨r, rfl, hYr, hrg, d0, d1, d2, d3, hfz, hrow⟩ := hM.at HRel.out.2.1
  obtain ⟨c0, c1, c2⟩ := hM.c
  have him : i < m := by rw [← hm]; exact (List.getElem?_eq_some_iff.1 HRel.out.2.1).1
  have hii : (i : Int) < m := by omega
  have HM := hide hM
  have hf1 := hfz (i * 4 + 1)
  have HFz := hide hfz
  have hst1 := hM.store (j := i * 4 + 1) (u := .int .i64 v) (L' := L1.set i { r0 with wt := v }) hrg (rws_set1 L1 i r0 v HRel.out.2.1) (by simp)
  obtain ⟨hM2, hmo2⟩ := hst1
  have HM2 := hide hM2
  have HMo2 := hide hmo2
  clear hM hM2 hmo2 hrow hfz
  go_upto_region 5 with fail
  generalize w1.setCell ⟨r, i * 4 + 1, none⟩ (.int .i64 v) = w2 at *
  have hg2 : (L1.set i { r0 with wt := v })[i]? = some { r0 with wt := v } := List.getElem?_set_self (by rw [hm]; exact him)
  clear c0 c1 c2 d0 d1 d2 d3 hf1
  obtain ⟨c0, c1, c2⟩ := HM2.out.c
  obtain ⟨r', hr', _, _, d0, d1, d2, d3, hfz, _⟩ := HM2.out.at hg2
  cases hr'
  have hf2 := hfz (i * 4 + 2)
  obtain ⟨rp, hrp⟩ : ∃ z, r0.ps = z := ⟨_, rfl⟩
  have HRp := hide hrp
  dsimp only at d2
  rw [hrp] at d2
  have HDf : Hid (setD kd last f k v = setF (oneF f k) k (v, capP kd last v rp, r0.was)) := hide (by
    have h9 := HKd.out
    unfold oneF at h9
    rw [if_pos rfl] at h9
    have h8 := Option.some.inj h9
    unfold setD
    rw [h8, ← hrp]; rfl)
  have HSet : Hid (∀ p, RelR ((L1.set i { r0 with wt := v }).set i { r0 with wt := v, ps := p }) (setF (oneF f k) k (v, p, r0.was))) := hide (fun p => by
    rw [List.set_set]
    have h9 := HRel.out.1.set HRel.out.2.1 (r' := { r0 with wt := v, ps := p }) rfl
    have e9 : setF (oneF f k) r0.se (v, p, r0.was) = setF (oneF f k) k (v, p, r0.was) := by rw [HRel.out.2.2]
    exact e9 ▸ h9)
  have HG2 := hide hg2
  have HEx : Hid (∀ (n2 : Nat), RfM (w2.drewN n2) Y1 g (.slice (some ⟨r, 0, none⟩) m c1') kd (L1.set i { r0 with wt := v }) last ∧ Mod Y1 w1 (w2.drewN n2)) := hide (fun n2 => ⟨HM2.out.below (drewN_below _ _ _), HMo2.out.trans (Mod.of_below (drewN_below _ _ _))⟩)
  have HRg := hide hrg
  have HMl := hide hm
  clear hg2 d0 d1 d3 hfz hrp hrg hm
  by_cases hcap : kd = 2 ∧ last + stp v < rp
  · have hw2 := HW2.out hcap.1
    have hk2 : ((kd : Int) == 2) = true := by simp; omega
    have hgt : decide (last + stp v < rp) = true := by simpa using hcap.2
    have HC : Hid (capP kd last v rp = last + stp v) := hide (by unfold capP; rw [if_pos hcap])
    clear hcap
    go_upto_region 5 with fail
    go_quiet (fail)
    have c0 : (w2.drewN nq).cell? ⟨g, 0, none⟩ = some (.int .i64 kd) := c0
    have c1 : (w2.drewN nq).cell? ⟨g, 1, none⟩ = some (.slice (some ⟨r, 0, none⟩) m c1') := c1
    have c2 : (w2.drewN nq).cell? ⟨g, 2, none⟩ = some (.int .i64 last) := c2
    have d2 : (w2.drewN nq).cell? ⟨r, i * 4 + 2, none⟩ = some (.int .i64 rp) := d2
    have hf2 : (w2.drewN nq).frozen? ⟨r, i * 4 + 2, none⟩ = false := hf2
    go_upto_region 6 with fail
    go_region
    have hfin := (HEx.out (nq + 1)).1.store (j := i * 4 + 2) (u := .int .i64 (last + stp v)) (L' := (L1.set i { r0 with wt := v }).set i { r0 with wt := v, ps := last + stp v }) HRg.out (rws_set2 _ i _ _ HG2.out) (by simp)
    have HFin := hide hfin
    clear hfin c0 c1 c2 d2 hf2
    go_wp2
    go_ret
    refine ⟨rfl, Y1, ⟨_, ⟨_, HFin.out.1⟩, ?_, by rw [List.length_set, List.length_set]; exact HLn.out⟩, HE1.out.trans ⟨(HEx.out (nq + 1)).2.trans HFin.out.2, fun b hb => .inl hb⟩⟩
    rw [HDf.out, HC.out]
    exact HSet.out _
  · have HC : Hid (capP kd last v rp = rp) := hide (by unfold capP; rw [if_neg hcap])
    have HFin : Hid (∀ n2, RfF (w2.drewN n2) Y1 g kd (setD kd last f k v) last (n + 1) ∧ Ext Y w Y1 (w2.drewN n2)) := hide (fun n2 => by
      refine ⟨⟨_, ⟨_, (HEx.out n2).1⟩, ?_, by rw [List.length_set]; exact HLn.out⟩, HE1.out.trans ⟨(HEx.out n2).2, fun b hb => .inl hb⟩⟩
      rw [HDf.out, HC.out]
      have h9 := HSet.out rp
      rw [List.set_set, ← HRp.out] at h9
      rw [← HRp.out]
      exact h9)
    by_cases hk : kd = 2
    · have hw2 := HW2.out hk
      have hk2 : ((kd : Int) == 2) = true := by simp; omega
      have hgt : decide (last + stp v < rp) = false := by simp; omega
      clear hcap hk
      go_upto_region 5 with fail
      go_quiet (fail)
      go_wp2
      go_ret
      exact ⟨rfl, Y1, (HFin.out _).1, (HFin.out _).2⟩
    · have hk2 : ((kd : Int) == 2) = false := by simp; omega
      clear hcap hk
      go_upto_region 5 with fail
      go_quiet (fail)
      go_wp2
      go_ret
      exact ⟨rfl, Y1, (HFin.out _).1, (HFin.out _).2⟩
end
end Go.Proofs.Ytngmnlmagbfijab
