import Derived.Test.YtimfgjndgfjjgaaMZ
namespace Go.Proofs.Ytimfgjndgfjjgaa
open Go.RowKit Go.Shelf

set_option maxRecDepth 16000 in
set_option maxHeartbeats 8000000 in
theorem keepApart_walk (z : Int) (w : World) : Calls Try.prog 7 #[.int .i64 z] w fun e w' => e = .returned (.bool true) ∧ Below w.heap.size w w' := by
  go_enter Try.func7, Try.ntmps7
  by_cases hr0 : z < 1
  · go_wp2
    go_ret
    exact ⟨rfl, Below.refl _ _⟩
  by_cases hr1 : 20 < z
  · go_wp2
    go_ret
    exact ⟨rfl, Below.refl _ _⟩
  obtain ⟨n, rfl⟩ : ∃ n : Nat, z = n := ⟨z.toNat, by omega⟩
  have hn1 : 1 ≤ n := by omega
  have hn2 : n ≤ 20 := by omega
  go_wp2_with fail
  refine (begun_any w 1 5 7 15 ⟨by omega, by omega, by omega, by omega, by omega, by omega, by omega, by omega⟩).mono ?_
  rintro e w1 ⟨B, F, bk, rfl, h1, h2, h3, h4⟩
  have HG1 : Hid (∃ F bk, Gs w w1 B F bk (some 7) (cc 0 0 0) (oo true true)) := by
    have hk := h4.kp
    rw [cc_zero, oo_four] at hk
    exact hide ⟨F, bk, h1, hk, h2, h3⟩
  clear h1 h2 h3 h4
  go_wp2_with fail
  go_loopw [4] (fun x wr => ∃ k : Nat, k ≤ n ∧ x = .int .i64 (k : Int) ∧ Hid (∃ F bk, Gs w wr B F bk (some 7) (cc k 0 0) (oo true true))) (fun x _ => n - (intOf x).toNat)
  case atStart => exact ⟨0, by omega, rfl, HG1⟩
  case round =>
  clear HG1
  obtain ⟨k, hk, rfl, K1⟩ := hrel
  by_cases hlt : k < n
  · have hd : decide ((k : Int) < (n : Int)) = true := by simp; omega
    obtain ⟨F1, bk1, hG⟩ := K1.out
    have HD := hide (hG.derive 1 (by decide) rfl (by simp [cc]; omega) 1 rfl)
    clear hG K1
    go_wp2_with fail
    refine HD.out.mono ?_
    rintro e w2 ⟨v, rfl, F2, bk2, hG2, hE2⟩
    rw [cc_1] at hG2
    have HG2 : Hid (∃ F bk, Gs w w2 B F bk (some 7) (cc (k + 1) 0 0) (oo true true)) := hide ⟨F2, bk2, hG2⟩
    clear hG2 hE2 HD
    go_wp2
    go_roundw
    case rel =>
      first
        | exact ⟨k + 1, by omega, by go_num, HG2⟩
        | ((repeat apply Exists.intro); refine ⟨?_, rfl⟩; exact ⟨k + 1, by omega, by go_num, HG2⟩)
    case measure => simp [intOf]; omega
  have hd : decide ((k : Int) < (n : Int)) = false := by simp; omega
  obtain rfl : k = n := by omega
  obtain ⟨F1, bk1, hG⟩ := K1.out
  have HG := hide hG
  have HLi := hide (hG.list 1 (by decide) rfl 1 rfl)
  clear hG K1
  go_wp2_with fail
  refine HLi.out.mono ?_
  rintro e w2 ⟨v, kc, rfl, hb2, hR2, -⟩
  have hcn : cc k 0 0 1 = k := by simp [cc]
  rw [hcn] at hR2
  obtain ⟨a2, c2, hv2⟩ := hR2.shape
  rw [kidsA_len] at hv2
  subst hv2
  have HG2 := hide (HG.out.below hb2)
  obtain ⟨g2, rfl⟩ : ∃ g, a2 = some ⟨g, 0, none⟩ := by
    have hrow := hR2.row
    rw [kidsA_len] at hrow
    obtain ⟨_, ⟨h0, h00⟩ | ⟨g0, cap, cur, hv0, _⟩⟩ := hrow
    · omega
    · cases hv0; exact ⟨_, rfl⟩
  have HR2 := hide hR2
  have HR0 : Hid (∃ l' : List Hd, l'.length = k ∧ (∀ i (hi : i < l'.length), i < 0 → l'[i].2.1 = 100 + i) ∧ Gs w w2 B F1 bk1 (some 7) (cc k 0 0) (oo true true) ∧ Rw w.heap.size w2 F1 (.slice (some ⟨g2, 0, none⟩) k c2) l') := hide ⟨_, kidsA_len _ _ _, fun i hi h => by omega, HG2.out, HR2.out⟩
  clear hb2 hR2 HG2 HR2 HG HLi hcn hd hlt hk
  go_wp2_with fail
  go_loopw [9] (fun x wr => ∃ j : Nat, j ≤ k ∧ x = .int .i64 (j : Int) ∧ Hid (∃ l' : List Hd, l'.length = k ∧ (∀ i (hi : i < l'.length), i < j → l'[i].2.1 = 100 + i) ∧ Gs w wr B F1 bk1 (some 7) (cc k 0 0) (oo true true) ∧ Rw w.heap.size wr F1 (.slice (some ⟨g2, 0, none⟩) k c2) l')) (fun x _ => k - (intOf x).toNat)
  case atStart => exact ⟨0, by omega, rfl, HR0⟩
  case round =>
  clear HR0
  obtain ⟨j, hj, rfl, K1⟩ := hrel
  by_cases hlt : j < k
  · have hd : decide ((j : Int) < (k : Int)) = true := by simp; omega
    obtain ⟨l', e1, e2, hG, hR⟩ := K1.out
    have hlt' : j < l'.length := by rw [e1]; exact hlt
    have hrow := hR.row
    rw [e1] at hrow
    have c1 : wr.cell? ⟨g2, j * 6 + 1, none⟩ = some (.int .i64 (l'[j].2.1 : Int)) := by rw [hrow.cellAt (j * 6 + 1) (by omega), encA_at hlt' 1 (by omega)]; rfl
    have c5 : wr.cell? ⟨g2, j * 6 + 5, none⟩ = some (.int .i64 l'[j].2.2.r) := by rw [hrow.cellAt (j * 6 + 5) (by omega), encA_at hlt' 5 (by omega)]; rfl
    have f1 := hrow.frozenAt (j * 6 + 1)
    have f5 := hrow.frozenAt (j * 6 + 5)
    have st1 := hrow.stored (j * 6 + 1) (.int .i64 ((100 + j : Nat) : Int))
    rw [encA_set hlt'] at st1
    have st2 := st1.1.stored (j * 6 + 5) (.int .i64 8)
    rw [encA_set5 (by rw [List.length_set]; exact hlt')] at st2
    simp only [List.getElem_set_self, List.set_set] at st2
    have HK : Hid (∃ l2 : List Hd, l2.length = k ∧ (∀ i (hi : i < l2.length), i < j + 1 → l2[i].2.1 = 100 + i) ∧ Gs w ((wr.setCell ⟨g2, j * 6 + 1, none⟩ (.int .i64 ((100 + j : Nat) : Int))).setCell ⟨g2, j * 6 + 5, none⟩ (.int .i64 8)) B F1 bk1 (some 7) (cc k 0 0) (oo true true) ∧ Rw w.heap.size ((wr.setCell ⟨g2, j * 6 + 1, none⟩ (.int .i64 ((100 + j : Nat) : Int))).setCell ⟨g2, j * 6 + 5, none⟩ (.int .i64 8)) F1 (.slice (some ⟨g2, 0, none⟩) k c2) l2) := by
      have hgr : wr.grownBy ((wr.setCell ⟨g2, j * 6 + 1, none⟩ (.int .i64 ((100 + j : Nat) : Int))).setCell ⟨g2, j * 6 + 5, none⟩ (.int .i64 8)) (some g2) := by
        have h1 := st1.2
        have h2 := st2.2
        exact ⟨h2.os.trans h1.os, h2.tape.trans h1.tape, h2.output.trans h1.output, Nat.le_trans h1.size h2.size, fun b hb hne => (h2.block b (Nat.lt_of_lt_of_le hb h1.size) hne).trans (h1.block b hb hne)⟩
      refine hide ⟨l'.set j (l'[j].1, (100 + j, { l'[j].2.2 with r := 8 })), by rw [List.length_set]; exact e1, fun i hi hij => ?_, ⟨book_kept hG.book hR hgr, hG.kp, hG.lo, hG.bel.grown hgr hG.bel.size (fun q hq => (hR.row.lt q hq).1)⟩, ⟨?_, hR.nf⟩⟩
      · rw [List.getElem_set]
        split
        · rename_i e; subst e; rfl
        · rename_i e
          exact e2 i (by simp only [List.length_set] at hi; exact hi) (by omega)
      · have h9 := st2.1
        rw [List.length_set, e1]; exact h9
    have hfk : ((100 + j : Nat) : Int) = 100 + (j : Int) := by omega
    rw [hfk] at HK
    have hkl : (j : Int) < (k : Int) := by omega
    have hwk : j * 6 + 5 < k * 6 := by omega
    clear e1 e2 hG hR hrow st1 st2 K1 hfk
    go_wp2
    go_roundw
    case rel =>
      first
        | exact ⟨j + 1, by omega, by go_num, HK⟩
        | ((repeat apply Exists.intro); refine ⟨?_, rfl⟩; exact ⟨j + 1, by omega, by go_num, HK⟩)
    case measure => simp [intOf]; omega
  have hd : decide ((j : Int) < (k : Int)) = false := by simp; omega
  obtain ⟨l', e1, e2, hG, hR⟩ := K1.out
  have HBe : Hid (l'.length = k ∧ ∀ i (hi : i < l'.length), l'[i].2.1 = 100 + i) := hide ⟨e1, fun i hi => e2 i hi (by omega)⟩
  have HG := hide hG
  have HR := hide hR
  clear e1 e2 hG hR K1
  go_upto_region 20 with fail
  have hbA := (Below.refl wr.heap.size wr).alloc (Nat.le_refl _) (.cells (cel ((0 : Int), (999, ⟨0, 0, 0, 0, 0, 0⟩))) 54)
  have HRA : Hid (Rw w.heap.size (wr.alloc (.cells (cel ((0 : Int), (999, ⟨0, 0, 0, 0, 0, 0⟩))) 54)) F1 (.slice (some ⟨g2, 0, none⟩) k c2) l') := hide (HR.out.ext (Ext.of_below hbA))
  have HGA := hide (HG.out.below hbA)
  have HrA : Hid ((wr.alloc (.cells (cel ((0 : Int), (999, ⟨0, 0, 0, 0, 0, 0⟩))) 54)).ownsRow w.heap.size 54 6 (.slice (some ⟨g2, 0, none⟩) k c2) k (encA l')) := by
    have h1 := HRA.out.row
    rw [HBe.out.1] at h1
    exact hide h1
  have HNA := hide (heap_alloc_new wr (.cells (cel ((0 : Int), (999, ⟨0, 0, 0, 0, 0, 0⟩))) 54))
  clear hbA HG HR
  go_wp2_with (at_builtin; refine append_keep _ rfl _ _ rfl w.heap.size g2 k c2 l' rfl HBe.out.1 HrA.out ((0 : Int), (999, ⟨0, 0, 0, 0, 0, 0⟩)) wr.heap.size 1 rfl HNA.out (by omega) ?_; intro gg cap' w5 ho5 hgg5 hh5 hgr5)
  have HG5 : Hid (Gs w w5 B F1 bk1 (some 7) (cc k 0 0) (oo true true)) := hide ⟨book_kept HGA.out.book HRA.out hgr5, HGA.out.kp, HGA.out.lo, HGA.out.bel.grown hgr5 HGA.out.bel.size (fun q hq => (HRA.out.row.lt q hq).1)⟩
  have HGr : Hid (Rw w.heap.size w5 F1 (.slice (some ⟨gg, 0, none⟩) (k + 1) cap') (l' ++ [((0 : Int), (999, ⟨0, 0, 0, 0, 0, 0⟩))])) := by
    refine hide ⟨?_, fun g hg hf => ?_⟩
    · rw [List.length_append, HBe.out.1]; exact ho5
    · cases hg
      rcases hgg5 with rfl | h1
      · exact HRA.out.nf _ rfl hf
      · exact Nat.lt_irrefl _ (Nat.lt_of_lt_of_le (HGA.out.book.lt gg hf) h1)
  have HLf : Hid (Hf w5 F1 (.slice (some ⟨g2, 0, none⟩) k c2) l') := hide ⟨hh5, HRA.out.nf⟩
  have hbJ := (Below.refl w5.heap.size w5).alloc (Nat.le_refl _) (.cells #[.int .i64 5, .int .i64 0, .int .i64 0, .int .i64 99] 3)
  have hJ := heap_alloc_new w5 (.cells #[.int .i64 5, .int .i64 0, .int .i64 0, .int .i64 99] 3)
  have HG6 := hide (HG5.out.below hbJ)
  have HGr6 := hide (HGr.out.ext (Ext.of_below hbJ))
  have HLf6 := hide (HLf.out.ext (Ext.of_below hbJ) (by rw [HBe.out.1]; omega))
  clear ho5 hgg5 hh5 hgr5 HRA HGA HrA HNA HG5 HGr HLf hbJ
  generalize w5.alloc (.cells #[.int .i64 5, .int .i64 0, .int .i64 0, .int .i64 99] 3) = w6 at *
  generalize w5.heap.size = J at *
  obtain ⟨j0, j1, j2, j3⟩ := blk4 hJ
  refine (HG6.out.up (by simp [cc]; omega) J j0 j1 j2 j3).mono ?_
  rintro e w7 ⟨rfl, hb7⟩
  have hb8 := hb7.alloc hb7.size (.cells #[.int .i64 0, .int .i64 0] 28)
  have hP8 := heap_alloc_new w7 (.cells #[.int .i64 0, .int .i64 0] 28)
  have hJ8 := (hb8.block J (Array.getElem?_eq_some_iff.1 hJ).1).trans hJ
  have HG8 := hide (HG6.out.below hb8)
  have HGr8 := hide (HGr6.out.ext (Ext.of_below hb8))
  have HLf8 := hide (HLf6.out.ext (Ext.of_below hb8) (by rw [HBe.out.1]; omega))
  clear hJ j0 j1 j2 j3 hb7 hb8 HG6 HGr6 HLf6
  go_upto_region 23 with fail
  generalize w7.alloc (.cells #[.int .i64 0, .int .i64 0] 28) = w8 at *
  generalize w7.heap.size = P at *
  obtain ⟨j0, j1, j2, j3⟩ := blk4 hJ8
  obtain ⟨p0, p1, -, -⟩ := blk2 hP8
  clear hJ8 hP8
  go_wp2_with fail
  refine (HG8.out.derive 1 (by decide) rfl (by simp [cc]; omega) 1 rfl).mono ?_
  rintro e w9 ⟨vd, rfl, F9, bk9, hG9, hE9⟩
  rw [cc_1] at hG9
  have HG9 := hide hG9
  have HGr9 := hide (HGr8.out.ext hE9)
  have HLf9 := hide (HLf8.out.ext hE9 (by rw [HBe.out.1]; omega))
  clear hG9 hE9 HG8 HGr8 HLf8 j0 j1 j2 j3 p0 p1
  go_wp2_with fail
  refine (HG9.out.list 1 (by decide) rfl 1 rfl).mono ?_
  rintro e wa ⟨vm, km, rfl, hba, hMa, -⟩
  have hcn : cc (k + 1) 0 0 1 = k + 1 := by simp [cc]
  rw [hcn] at hMa
  obtain ⟨am, cm, hvm⟩ := hMa.shape
  rw [kidsA_len] at hvm
  subst hvm
  have HGa := hide (HG9.out.below hba)
  have HGra := hide (HGr9.out.ext (Ext.of_below hba))
  have HLfa := hide (HLf9.out.ext (Ext.of_below hba) (by rw [HBe.out.1]; omega))
  have HMa := hide hMa
  clear hba hMa HG9 HGr9 HLf9 hcn
  obtain ⟨ag, cg, hvg, hcg⟩ := HGra.out.held
  obtain ⟨gg', e1, _, _, q999, _⟩ := hcg k (by rw [List.length_append, HBe.out.1]; simp)
  rw [List.length_append, HBe.out.1] at hvg
  cases hvg
  cases e1
  have q9 : wa.cell? ⟨gg, k * 6 + 1, none⟩ = some (.int .i64 999) := by
    rw [q999]
    have : (l' ++ [((0 : Int), (999, (⟨0, 0, 0, 0, 0, 0⟩ : Rc)))])[k]'(by rw [List.length_append, HBe.out.1]; simp) = ((0 : Int), (999, ⟨0, 0, 0, 0, 0, 0⟩)) := by
      rw [List.getElem_append_right (by rw [HBe.out.1]; omega)]
      simp
    rw [this]; rfl
  have hkk : k * 6 + 5 < (k + 1) * 6 := by omega
  clear hcg q999
  obtain ⟨am', cm', hvm, hcm⟩ := HMa.out.held
  have hc0 := hcm 0 (by rw [kidsA_len]; omega)
  rw [kidsA_len] at hvm
  cases hvm
  obtain ⟨gm, rfl, -⟩ := hc0
  have HCm : Hid (∀ i, i < k + 1 → wa.cell? ⟨gm, i * 6, none⟩ = some (.int .i64 1) ∧ wa.cell? ⟨gm, i * 6 + 1, none⟩ = some (.int .i64 (i : Int)) ∧ wa.cell? ⟨gm, i * 6 + 5, none⟩ = some (.int .i64 5)) := by
    refine hide fun i hi => ?_
    obtain ⟨g, e1, _, k1, k2, _, _, _, k6⟩ := hcm i (by rw [kidsA_len]; exact hi)
    cases e1
    rw [kidsA_at] at k1 k2 k6
    exact ⟨k1, k2, k6⟩
  have HCl : Hid (∀ i, i < k → wa.cell? ⟨g2, i * 6 + 1, none⟩ = some (.int .i64 (100 + (i : Int)))) := by
    refine hide fun i hi => ?_
    obtain ⟨al, cl, hvl, hcl⟩ := HLfa.out.held
    obtain ⟨g, e1, _, _, k2, _⟩ := hcl i (by rw [HBe.out.1]; exact hi)
    rw [HBe.out.1] at hvl
    cases hvl
    cases e1
    rw [k2, HBe.out.2 i (by rw [HBe.out.1]; exact hi)]
    congr 2
  clear hcm HLfa HGra
  go_wp2_with fail
  go_loopw [16] (fun x wr => wr = wa ∧ ∃ i : Nat, i ≤ k + 1 ∧ x = .int .i64 (i : Int)) (fun x _ => k + 1 - (intOf x).toNat)
  case atStart => exact ⟨rfl, 0, by omega, rfl⟩
  case round =>
  obtain ⟨rfl, i, hi, rfl⟩ := hrel
  by_cases hle : i < k + 1
  · have hd3 : decide ((i : Int) ≤ (k : Int)) = true := by simp; omega
    obtain ⟨m0, m1, m5⟩ := HCm.out i hle
    have hil : (i : Int) < ((k + 1 : Nat) : Int) := by omega
    have hwi : i * 6 + 5 < (k + 1) * 6 := by omega
    by_cases hik : i < k
    · have hd4 : decide ((i : Int) < (k : Int)) = true := by simp; omega
      have l1 := HCl.out i hik
      have hwi2 : i * 6 + 5 < k * 6 := by omega
      clear q9
      go_wp2
      go_roundw
      case rel => exact ⟨by first | rfl | trivial, i + 1, by omega, by go_num⟩
      case measure => simp [intOf]; omega
    · have hd4 : decide ((i : Int) < (k : Int)) = false := by simp; omega
      clear q9
      go_wp2
      go_roundw
      case rel => exact ⟨by first | rfl | trivial, i + 1, by omega, by go_num⟩
      case measure => simp [intOf]; omega
  have hd3 : decide ((i : Int) ≤ (k : Int)) = false := by simp; omega
  have HRv := hide (HGa.out.revoke 1 (by decide) (fun y hy => by unfold cc; simp [hy]))
  clear q9 HCl
  go_wp2_with fail
  refine HRv.out.mono ?_
  rintro e wb ⟨vg, bkb, rfl, hGb, hEb, hRb, -⟩
  rw [cc_zero] at hGb
  have hcn : cc (k + 1) 0 0 1 = k + 1 := by simp [cc]
  rw [hcn] at hRb
  obtain ⟨ab, cb, hvb, hcb⟩ := hRb.held
  have hc0 := hcb 0 (by rw [kidsA_len]; omega)
  rw [kidsA_len] at hvb
  subst hvb
  obtain ⟨gb, rfl, -⟩ := hc0
  have HCb : Hid (∀ i, i < k + 1 → wb.cell? ⟨gb, i * 6 + 1, none⟩ = some (.int .i64 (i : Int))) := by
    refine hide fun i hi => ?_
    obtain ⟨g, e1, _, _, k2, _⟩ := hcb i (by rw [kidsA_len]; exact hi)
    cases e1
    rw [kidsA_at] at k2
    exact k2
  have HMb := hide (HMa.out.ext hEb)
  obtain ⟨am2, cm2, hvm2, hcm2⟩ := HMb.out.held
  rw [kidsA_len] at hvm2
  have HCm2 : Hid (∀ i, i < k + 1 → wb.cell? ⟨gm, i * 6 + 1, none⟩ = some (.int .i64 (i : Int))) := by
    refine hide fun i hi => ?_
    obtain ⟨g, e1, _, _, k2, _⟩ := hcm2 i (by rw [kidsA_len]; exact hi)
    cases hvm2
    cases e1
    rw [kidsA_at] at k2
    exact k2
  have HGb := hide hGb
  have HRb := hide hRb
  clear hGb hEb hRb hcb hvm2 hcm2 HGa HMa HMb HRv HCm hcn hd3
  go_wp2_with fail
  go_loopw [19] (fun x wr => wr = wb ∧ ∃ i : Nat, i ≤ k + 1 ∧ x = .int .i64 (i : Int)) (fun x _ => k + 1 - (intOf x).toNat)
  case atStart => exact ⟨rfl, 0, by omega, rfl⟩
  case round =>
  obtain ⟨rfl, i2, hi2, rfl⟩ := hrel
  by_cases hle2 : i2 < k + 1
  · have hd3 : decide ((i2 : Int) ≤ (k : Int)) = true := by simp; omega
    have m1 := HCm2.out i2 hle2
    have b1 := HCb.out i2 hle2
    have hil : (i2 : Int) < ((k + 1 : Nat) : Int) := by omega
    have hwi : i2 * 6 + 5 < (k + 1) * 6 := by omega
    go_wp2
    go_roundw
    case rel => exact ⟨by first | rfl | trivial, i2 + 1, by omega, by go_num⟩
    case measure => simp [intOf]; omega
  have hd3 : decide ((i2 : Int) ≤ (k : Int)) = false := by simp; omega
  have HGo := hide (goneApart_any w wr F9 B bkb HGb.out _ _ HRb.out k ⟨hn1, hn2⟩ (kidsA_len _ _ _))
  clear HGb HRb HCm2 HCb
  go_wp2_with fail
  refine HGo.out.mono ?_
  rintro e wc ⟨rfl, hbc⟩
  go_wp2
  go_ret
  exact ⟨rfl, hbc⟩
end Go.Proofs.Ytimfgjndgfjjgaa
