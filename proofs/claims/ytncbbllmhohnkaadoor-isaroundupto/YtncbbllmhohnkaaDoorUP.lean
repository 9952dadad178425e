import Derived.Test.YtncbbllmhohnkaaDoorUO
namespace Go.Proofs.YtncbbllmhohnkaaDoor
open Go.RowKit
theorem set8 {w v : World} {g B : Nat} (h : Below B w v) (hg : B ≤ g) (a0 a1 a2 a3 a4 a5 a6 a7 : Value) : Below B w ((((((((v.setCell ⟨g, 0, none⟩ a0).setCell ⟨g, 1, none⟩ a1).setCell ⟨g, 2, none⟩ a2).setCell ⟨g, 3, none⟩ a3).setCell ⟨g, 4, none⟩ a4).setCell ⟨g, 5, none⟩ a5).setCell ⟨g, 6, none⟩ a6).setCell ⟨g, 7, none⟩ a7) :=
  (((((((h.setCell hg _).setCell hg _).setCell hg _).setCell hg _).setCell hg _).setCell hg _).setCell hg _).setCell hg _
section
variable (w : World)
set_option maxRecDepth 100000 in
set_option maxHeartbeats 2000000 in
theorem readLine_any (s : Tx) (hs : s.length ≤ 16384) (hO : Ops w) : Calls Tryd.prog 39 #[.string ⟨s.toArray⟩] w fun e w' => e = .returned (.agg (lnC (lineT s))) ∧ Below w.heap.size w w' := by
  have HV : Hid (lineT s = match cutT [58] (trimT ((cutT [59] s).getD (s, [])).1) with | none => stT (trimT ((cutT [59] s).getD (s, [])).1) | some (a, b) => if isLbl a then { stT (trimT b) with label := a } else lnBad) := hide rfl
  have hcl := (cut_len [59] s).1
  have HC := hide (fun W => cutAt_any W [59] s (by decide) (by decide) hs)
  have HO := hide hO
  clear hO
  generalize ((cutT [59] s).getD (s, [])).1 = t1 at *
  generalize ((cutT [59] s).getD (s, [])).2 = t1b at *
  have htl := trimT_len t1
  have HT := hide (fun W => trim_any W t1 (by omega))
  generalize trimT t1 = t at *
  have hcl2 := cut_len [58] t
  have HC2 := hide (fun W => cutAt_any W [58] t (by decide) (by decide) (by omega))
  go_enter Tryd.func39, Tryd.ntmps39
  go_wp2_with fail
  refine (HC.out _).mono ?_
  rintro e w1 ⟨rfl, hb1⟩
  have hs1 := hb1.size
  simp only [World.size_alloc] at hs1
  have HB1 := hide ((bel1 w (.cells (lnC ln0) 60)).trans (hb1.mono (by simp)))
  have HR1 : Hid (LnAt w1 w.heap.size ln0) := hide (LnAt.keep (w := w.alloc (.cells (lnC ln0) 60)) (heap_alloc_last _ _) hb1)
  clear hb1 HC
  go_wp2_with fail
  refine (HT.out _).mono ?_
  rintro e w2 ⟨rfl, hb2⟩
  have HB2 := hide (HB1.out.trans (hb2.mono (by omega)))
  have HR2 := hide (HR1.out.keep hb2)
  have hs2 := hb2.size
  clear hb2 HT HB1 HR1
  go_wp2_with fail
  refine (HC2.out _).mono ?_
  rintro e w3 ⟨rfl, hb3⟩
  have HB3 := hide (HB2.out.trans (hb3.mono (by omega)))
  have HR3 := hide (HR2.out.keep hb3)
  have hs3 := hb3.size
  clear hb3 HC2 HB2 HR2
  cases hct : cutT [58] t with
  | none =>
    rw [hct] at HV
    have HL := hide (readSt_any w3 t (by omega) (HO.out.below HB3.out))
    clear hct
    simp only [Option.getD_none, Option.isSome_none] at *
    generalize stT t = L at *
    go_wp2_with fail
    refine HL.out.mono ?_
    rintro e w4 ⟨rfl, hb4⟩
    have HB4 := hide (HB3.out.trans (hb4.mono (by omega)))
    have hR4 := HR3.out.keep hb4
    have fr := fun j => hR4.frz j
    obtain ⟨r0, r1, r2, r3, r4, r5, r6, r7⟩ := hR4.cells
    have HS := hide (ln_sets hR4 L)
    clear hb4 hR4 HL HB3 HR3
    simp only [lnC]
    go_wp2
    refine bodyPost_ret (results_cell_row rfl _ _ w.heap.size 60 (lnC L) (0, 0) _ rfl HS.out Tryd.underlying60 rfl info_line) rfl ?_
    exact ⟨by rw [HV.out], set8 HB4.out (Nat.le_refl _) _ _ _ _ _ _ _ _⟩
  | some p =>
    obtain ⟨a, b⟩ := p
    rw [hct] at HV hcl2
    simp only [Option.getD_some] at hcl2
    have HLb := hide (isLabel_any w3 a (by omega))
    clear hct
    simp only [Option.getD_some, Option.isSome_some] at *
    cases hla : isLbl a with
    | false =>
      rw [hla] at HLb
      have HV2 : Hid (lineT s = lnBad) := hide (by rw [HV.out]; simp [hla])
      clear hla HV
      go_wp2_with fail
      refine HLb.out.mono ?_
      rintro e w4 ⟨rfl, hb4⟩
      have HB4 := hide (HB3.out.trans (hb4.mono (by omega)))
      have hR4 := HR3.out.keep hb4
      have fr := fun j => hR4.frz j
      obtain ⟨r0, r1, r2, r3, r4, r5, r6, r7⟩ := hR4.cells
      have HS := hide (ln_sets hR4 lnBad)
      clear hb4 hR4 HLb HB3 HR3
      go_wp2
      refine bodyPost_ret (results_cell_row rfl _ _ w.heap.size 60 (lnC lnBad) (0, 0) _ rfl HS.out Tryd.underlying60 rfl info_line) rfl ?_
      exact ⟨by rw [HV2.out], set8 HB4.out (Nat.le_refl _) _ _ _ _ _ _ _ _⟩
    | true =>
      rw [hla] at HLb
      have HV2 : Hid (lineT s = { stT (trimT b) with label := a }) := hide (by rw [HV.out]; simp [hla])
      have htb := trimT_len b
      clear hla HV
      go_wp2_with fail
      refine HLb.out.mono ?_
      rintro e w4 ⟨rfl, hb4⟩
      have HB4 := hide (HB3.out.trans (hb4.mono (by omega)))
      have HR4 := hide (HR3.out.keep hb4)
      have hs4 := hb4.size
      clear hb4 HLb HB3 HR3
      go_wp2_with fail
      refine (trim_any _ b (by omega)).mono ?_
      rintro e w5 ⟨rfl, hb5⟩
      have HB5 := hide (HB4.out.trans (hb5.mono (by omega)))
      have HR5 := hide (HR4.out.keep hb5)
      have hs5 := hb5.size
      clear hb5 HB4 HR4
      have HL := hide (readSt_any w5 (trimT b) (by omega) (HO.out.below HB5.out))
      generalize stT (trimT b) = L at *
      go_wp2_with fail
      refine HL.out.mono ?_
      rintro e w6 ⟨rfl, hb6⟩
      have HB6 := hide (HB5.out.trans (hb6.mono (by omega)))
      have HR6 := hide (HR5.out.keep hb6)
      have hs6 := hb6.size
      clear hb6 HB5 HR5 HL
      simp only [lnC]
      go_upto_region 10 with fail
      have hG : LnAt (w6.alloc (.cells #[.bool L.wrong, .string ⟨a.toArray⟩, .int .i64 L.i.op, .int .i64 L.i.a, .int .i64 L.i.b, .int .i64 L.i.imm, .string ⟨L.name.toArray⟩, .int .i64 L.words] 60)) w6.heap.size { L with label := a } := heap_alloc_last _ _
      have hR7 := HR6.out.keep (bel1 w6 (.cells #[.bool L.wrong, .string ⟨a.toArray⟩, .int .i64 L.i.op, .int .i64 L.i.a, .int .i64 L.i.b, .int .i64 L.i.imm, .string ⟨L.name.toArray⟩, .int .i64 L.words] 60))
      have HB7 := hide (HB6.out.alloc HB6.out.size (.cells #[.bool L.wrong, .string ⟨a.toArray⟩, .int .i64 L.i.op, .int .i64 L.i.a, .int .i64 L.i.b, .int .i64 L.i.imm, .string ⟨L.name.toArray⟩, .int .i64 L.words] 60))
      generalize w6.alloc (.cells #[.bool L.wrong, .string ⟨a.toArray⟩, .int .i64 L.i.op, .int .i64 L.i.a, .int .i64 L.i.b, .int .i64 L.i.imm, .string ⟨L.name.toArray⟩, .int .i64 L.words] 60) = W7 at *
      generalize w6.heap.size = g7 at *
      obtain ⟨q0, q1, q2, q3, q4, q5, q6, q7⟩ := hG.cells
      have fr := fun j => hR7.frz j
      obtain ⟨r0, r1, r2, r3, r4, r5, r6, r7⟩ := hR7.cells
      have HS := hide (ln_sets hR7 { L with label := a })
      clear hG hR7 HR6 HB6
      go_wp2
      refine bodyPost_ret (results_cell_row rfl _ _ w.heap.size 60 (lnC { L with label := a }) (0, 0) _ rfl HS.out Tryd.underlying60 rfl info_line) rfl ?_
      exact ⟨by rw [HV2.out], set8 HB7.out (Nat.le_refl _) _ _ _ _ _ _ _ _⟩
end
end Go.Proofs.YtncbbllmhohnkaaDoor
