import Derived.Test.YtncbbllmhohnkaaDoorUV
namespace Go.Proofs.YtncbbllmhohnkaaDoor
open Go.RowKit
theorem asm_step {ps : List (Tx × (Nat × Int))} {ls : List Ln} {k : Nat} {ws : List Nat} (h : k < ls.length) : asmL ps (ls.drop k) k ws = if fltT ps ls[k] k ws.length = 0 then asmL ps (ls.drop (k + 1)) (k + 1) (ws ++ List.replicate ls[k].words.toNat (wrdT ps ls[k] ws.length)) else ([], k + 1, fltT ps ls[k] k ws.length) := by
  rw [List.drop_eq_getElem_cons h]
  rfl
theorem flt_room {ps : List (Tx × (Nat × Int))} {l : Ln} {k : Nat} {a : Int} (h : fltT ps l k a = 0) : a + l.words ≤ 512 := by
  unfold fltT at h
  split at h
  · simp at h
  · split at h
    · simp at h
    · split at h
      · simp at h
      · split at h
        · simp at h
        · omega
section
variable (w : World)
set_option maxRecDepth 100000 in
set_option maxHeartbeats 4000000 in
theorem asm_any (s : Tx) (hss : s.length ≤ 9223372036854775807) (hO : Ops w) : Calls Tryd.prog 10 #[.string ⟨s.toArray⟩] w fun e w' => ∃ v, e = .returned (.tuple #[v, .int .i64 ((asmT s).2.1 : Nat), .int .i64 (asmT s).2.2]) ∧ w'.ownsRow w.heap.size 29 1 v (asmT s).1.length (wds (asmT s).1) ∧ Below w.heap.size w w' := by
  by_cases hs : 16384 < s.length
  · have HV : Hid (asmT s = ([], 0, 41)) := hide (by unfold asmT; rw [if_pos hs])
    have hsI : (16384 : Int) < (s.length : Int) := by omega
    go_enter Tryd.func10, Tryd.ntmps10
    go_upto_region 1 with fail
    go_step3
    go_wp2
    rw [Exit.noGoto_ret]
    go_ret3
    exact ⟨_, by rw [HV.out]; rfl, by rw [HV.out]; exact ⟨rfl, .inl ⟨rfl, rfl⟩⟩, Below.refl _ _⟩
  · have HV : Hid (asmT s = asmL (lbs (linesT s) (linesT s).length) (linesT s) 0 []) := hide (by unfold asmT; rw [if_neg hs])
    have hsI : ¬ (16384 : Int) < (s.length : Int) := by omega
    have HRL := hide (readLines_any w s (by omega) hO)
    have hcnt := split_count 10 s
    have HOk : Hid (∀ l ∈ linesT s, LnOk l) := hide (fun l hl => by
      unfold linesT at hl
      obtain ⟨p, _, rfl⟩ := List.mem_map.1 hl
      exact lineT_ok p)
    have hlen : (linesT s).length = (splitT 10 s).length := by simp [linesT]
    have HO := hide hO
    clear hO
    change Hid (Calls _ _ _ _ fun e w' => ∃ v, e = .returned v ∧ w'.ownsRow w.heap.size 60 8 v (splitT 10 s).length (lns (linesT s)) ∧ Below w.heap.size w w') at HRL
    generalize linesT s = ls at *
    rw [← hlen] at hcnt HRL
    clear hlen
    go_enter Tryd.func10, Tryd.ntmps10
    go_upto_region 1 with fail
    go_step3
    go_wp2_with fail
    refine HRL.out.mono ?_
    rintro e w1 ⟨v1, rfl, ho1, hb1⟩
    obtain ⟨_, ao, cc, rfl, hLr⟩ := LRow.of ho1
    have hs1 := hb1.size
    have HB1 := hide hb1
    have HLr := hide hLr
    clear ho1 hb1 hLr HRL
    go_wp2_with fail
    refine (findLabels_any w1 ls ao cc (by omega) (fun l hl => ⟨(HOk.out l hl).w0, (HOk.out l hl).w1⟩) HLr.out).mono ?_
    rintro e w2 ⟨r, rfl, hLb, hr, hb2⟩
    have HLr2 := hide (HLr.out.keep hb2)
    have HLb := hide hLb
    have HB2 := hide (HB1.out.trans (hb2.mono hs1))
    have hs2 := hb2.size
    have HPs := hide (atK_bound (lbs_bound (by omega : ls.length ≤ 16385) (fun l hl => ⟨(HOk.out l hl).w0, (HOk.out l hl).w1⟩) ls.length (Nat.le_refl _)))
    clear hLb hb2 HLr HB1
    generalize lbs ls ls.length = ps at *
    obtain ⟨R, hRR⟩ : ∃ R, asmL ps ls 0 [] = R := ⟨_, rfl⟩
    rw [hRR] at HV
    have HRR := hide hRR
    clear hRR
    go_upto_region 8 with fail
    go_step3
    go_upto_region 8 with fail
    go_loopw [7, 8, 9, 21] (fun v a c u wr => ∃ (k : Nat) (ws : List Nat), a = .int .i64 0 ∧ c = .int .i64 0 ∧ u = .int .i64 (k : Int) ∧ k ≤ ls.length ∧ asmL ps (ls.drop k) k ws = R ∧ ws.length ≤ 512 ∧ wr.ownsRow w2.heap.size 29 1 v ws.length (wds ws) ∧ Below w2.heap.size w2 wr) (fun _ _ _ u _ => ls.length - (intOf u).toNat)
    case atStart => exact ⟨0, [], rfl, rfl, rfl, by omega, HRR.out, by simp, ⟨rfl, .inl ⟨rfl, rfl⟩⟩, Below.refl _ _⟩
    case round =>
    obtain ⟨k, ws, rfl, rfl, rfl, hk, hst, hwl, hOw, hBw⟩ := hrel
    clear HRR
    obtain ⟨au, cu, rfl⟩ := own_shape hOw
    have HOw := hide hOw
    have HBw := hide hBw
    have hsw := hBw.size
    by_cases hlt : k < ls.length
    · obtain ⟨a, rfl, ha⟩ := (HLr2.out.keep hBw) k hlt
      have hd : (k : Int) < (ls.length : Int) := by omega
      have hok := HOk.out ls[k] (List.getElem_mem hlt)
      have HSt := hide (hst.symm.trans (asm_step hlt))
      have HA := hide ha
      have HLbw := hide (HLb.out.keep hBw)
      have HOpw := hide ((HO.out.below HB2.out).below hBw)
      have HM := hide (HPs.out ls[k].name)
      clear hOw hBw ha hst
      generalize ls[k] = L at *
      have hw0 := hok.w0
      have hw1 := hok.w1
      have HRm : Hid (fltT ps L k (ws.length : Int) = 0 → (ws.length : Int) + L.words ≤ 512) := hide flt_room
      obtain ⟨FL, hFL⟩ : ∃ z, fltT ps L k (ws.length : Int) = z := ⟨_, rfl⟩
      have HFl : Hid (∀ W, Lb W r ps → Calls Tryd.prog 24 #[.agg (lnC L), .int .i64 (k : Int), .int .i64 (ws.length : Int), .map (some r)] W fun e w' => e = .returned (.int .i64 FL) ∧ Below W.heap.size W w') := hide (fun W hW => by rw [← hFL]; exact fault_any W ps L k (ws.length : Int) r (by omega) (by omega) hw0 hw1 hW)
      have HG := hide (fun W (hR : W.ownsRow w2.heap.size 29 1 (.slice au ws.length cu) ws.length (wds ws)) (h1 : w2.heap.size ≤ W.heap.size) (h2 : Lb W r ps) (h3 : Ops W) => give_any W ps L ws _ w2.heap.size r hok HM.out hwl hR h1 h2 h3)
      rw [hFL] at HSt HRm
      have HNn : Hid (ws.length ≤ 512) := hide hwl
      clear hFL hok HM
      generalize wrdT ps L (ws.length : Int) = WD at *
      obtain ⟨wrong, label, ⟨op, ia, ib, imm⟩, name, words⟩ := L
      simp only [lnC] at HFl HG hw0 hw1 HSt HRm
      go_upto_region 10 with (refine loadT Tryd.underlying60 rfl [.bool wrong, .string ⟨label.toArray⟩, .int .i64 op, .int .i64 ia, .int .i64 ib, .int .i64 imm, .string ⟨name.toArray⟩, .int .i64 words] (by kernel_rfl) rfl _ rfl (a.add (k * 8)) rfl HA.out ?_)
      have hb3 := bel1 wr (.cells #[.bool wrong, .string ⟨label.toArray⟩, .int .i64 op, .int .i64 ia, .int .i64 ib, .int .i64 imm, .string ⟨name.toArray⟩, .int .i64 words] 60)
      have hG : LnAt (wr.alloc (.cells #[.bool wrong, .string ⟨label.toArray⟩, .int .i64 op, .int .i64 ia, .int .i64 ib, .int .i64 imm, .string ⟨name.toArray⟩, .int .i64 words] 60)) wr.heap.size ⟨wrong, label, ⟨op, ia, ib, imm⟩, name, words⟩ := heap_alloc_last _ _
      have HLb3 := hide (HLbw.out.keep hb3)
      have HOp3 := hide (HOpw.out.below hb3)
      have HO3 := hide (own_keep HOw.out hb3)
      have HB3 := hide (HBw.out.alloc hsw (.cells #[.bool wrong, .string ⟨label.toArray⟩, .int .i64 op, .int .i64 ia, .int .i64 ib, .int .i64 imm, .string ⟨name.toArray⟩, .int .i64 words] 60))
      have hs3 : w2.heap.size ≤ (wr.alloc (.cells #[.bool wrong, .string ⟨label.toArray⟩, .int .i64 op, .int .i64 ia, .int .i64 ib, .int .i64 imm, .string ⟨name.toArray⟩, .int .i64 words] 60)).heap.size := by simp; omega
      clear hb3 HA HLbw HOpw HOw HBw
      generalize wr.alloc (.cells #[.bool wrong, .string ⟨label.toArray⟩, .int .i64 op, .int .i64 ia, .int .i64 ib, .int .i64 imm, .string ⟨name.toArray⟩, .int .i64 words] 60) = W at *
      generalize wr.heap.size = g at *
      obtain ⟨q0, q1, q2, q3, q4, q5, q6, q7⟩ := hG.cells
      have hgl := hG.lt
      go_wp2_with fail
      refine (HFl.out _ HLb3.out).mono ?_
      rintro e w4 ⟨rfl, hb4⟩
      have hG4 := hG.keep hb4
      have HLb4 := hide (HLb3.out.keep hb4)
      have HOp4 := hide (HOp3.out.below hb4)
      have HO4 := hide (own_keep HO3.out hb4)
      have HB4 := hide (HB3.out.trans (hb4.mono hs3))
      have hs4 := Nat.le_trans hs3 hb4.size
      clear hb4 hG HLb3 HOp3 HO3 HB3 q0 q1 q2 q3 q4 q5 q6 q7 HFl
      obtain ⟨q0, q1, q2, q3, q4, q5, q6, q7⟩ := hG4.cells
      by_cases hz : FL = 0
      · subst hz
        have HSt2 : Hid (R = asmL ps (ls.drop (k + 1)) (k + 1) (ws ++ List.replicate words.toNat WD)) := hide (by rw [HSt.out]; rfl)
        have hrm := HRm.out rfl
        have HLen : Hid ((ws ++ List.replicate words.toNat WD).length ≤ 512) := hide (by simp; omega)
        clear HSt HRm
        go_wp2_with fail
        refine (HG.out _ HO4.out hs4 HLb4.out HOp4.out).mono ?_
        rintro e w5 ⟨v5, rfl, ho5, hb5⟩
        have HB5 := hide (HB4.out.trans hb5)
        have HO5 := hide ho5
        obtain ⟨a5, c5, rfl⟩ := own_shape ho5
        clear ho5 hb5 HB4 HO4 HG
        generalize ws ++ List.replicate words.toNat WD = ws5 at *
        go_wp2
        refine ⟨⟨k + 1, ws5, rfl, rfl, by simp, by omega, HSt2.out.symm, HLen.out, HO5.out, HB5.out⟩, ?_⟩
        simp [intOf]
        omega
      · have HSt2 : Hid (R = ([], k + 1, FL)) := hide (by rw [HSt.out, if_neg hz])
        have hzb : (FL == 0) = false := by simpa using hz
        clear HSt HRm HG hz
        go_wp2
        (try rw [Exit.noGoto_ret])
        go_ret3
        exact ⟨_, by rw [HV.out, HSt2.out]; rfl, by rw [HV.out, HSt2.out]; exact ⟨rfl, .inl ⟨rfl, rfl⟩⟩, HB2.out.trans (HB4.out.mono (by omega))⟩
    · obtain rfl : k = ls.length := by omega
      have HSt : Hid (R = (ws, 0, 0)) := hide (by rw [← hst, List.drop_length]; rfl)
      clear hOw hBw hst
      go_wp2
      (try rw [Exit.noGoto_ret])
      go_ret3
      exact ⟨_, by rw [HV.out, HSt.out]; rfl, by rw [HV.out, HSt.out]; exact own_mono HOw.out (by omega), HB2.out.trans (HBw.out.mono (by omega))⟩
end
end Go.Proofs.YtncbbllmhohnkaaDoor
