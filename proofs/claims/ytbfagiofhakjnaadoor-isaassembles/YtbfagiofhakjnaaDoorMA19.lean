import Derived.Test.YtbfagiofhakjnaaDoorMA18
namespace Go.Proofs.YtbfagiofhakjnaaDoor
open Go.RowKit
section
variable (w : World)
set_option maxRecDepth 100000 in
set_option maxHeartbeats 4000000 in
theorem parsed_ng (s : Tx) (a b : Tx) (hl : s.length ≤ 16384) (hNm : Nms w) (h59 : cutT [59] s = none) (h58 : cutT [58] (trimT s) = some (a, b)) (hA : isLbl a = true) : Calls Tryd.prog 12 #[.string ⟨s.toArray⟩] w fun e w' => ∃ fo c, e = .returned (.agg (dlL (lineD s) fo c).toArray) ∧ w'.ownsRow w.heap.size 9 1 (.slice fo (lineD s).fields.length c) (lineD s).fields.length (strs (lineD s).fields) ∧ Below w.heap.size w w' := by
  have HV : Hid (lineD s = { stD (trimT b) with label := a, lab := true }) := hide (by unfold lineD; rw [h59]; simp only [Option.getD_none]; rw [h58]; simp only; rw [hA]; rfl)
  have HF := hide (fun W => find_any W s 59 hl)
  rw [fnd_none h59] at HF
  have HTm := hide (fun W => trimmed_any W s hl)
  have htl : (trimT s).length ≤ 16384 := by have := trimT_len s; omega
  have HG := hide (fun W => find_any W (trimT s) 58 htl)
  rw [fnd_some h58] at HG
  generalize lineD s = L at *
  generalize trimT s = t at *
  have hs8 := cut_split h58
  have e8 : (⟨t.toArray⟩ : ByteArray).extract 0 a.length = ⟨a.toArray⟩ := by rw [hs8]; exact ext_fst _ _ _
  have hk8 : a.length < t.length := by rw [hs8]; simp
  have hk8I : (a.length : Int) ≤ (t.length : Int) := by omega
  have hbl : b.length ≤ 16384 := by have : t.length = a.length + (b.length + 1) := by rw [hs8]; simp
                                    omega
  have HL := hide (fun W => isLabelD_any W a (by omega))
  rw [hA] at HL
  have f8 : (⟨t.toArray⟩ : ByteArray).extract (a.length + 1) t.length = ⟨b.toArray⟩ := by have := ext_snd a 58 b _ rfl; rw [← hs8] at this; exact this
  have hk7I : ((a.length + 1 : Nat) : Int) ≤ (t.length : Int) := by omega
  have HT2 := hide (fun W => trimmed_any W b hbl)
  have hul : (trimT b).length ≤ 16384 := by have := trimT_len b; omega
  clear hs8 hA
  have HB : Hid (Below w.heap.size w ((w.alloc (.cells (dlL dl0 none 0).toArray 42)).alloc (.cells (dlL dl0 none 0).toArray 42))) := hide ((bel1 w _).alloc (by simp) _)
  have HR : Hid (DlA ((w.alloc (.cells (dlL dl0 none 0).toArray 42)).alloc (.cells (dlL dl0 none 0).toArray 42)) w.heap.size dl0 none 0) := hide (DlA.keep (w := w.alloc (.cells (dlL dl0 none 0).toArray 42)) (heap_alloc_last _ _) (bel1 _ _))
  have HD : Hid (DlA ((w.alloc (.cells (dlL dl0 none 0).toArray 42)).alloc (.cells (dlL dl0 none 0).toArray 42)) (w.heap.size + 1) dl0 none 0) := hide (by have := heap_alloc_last (w.alloc (.cells (dlL dl0 none 0).toArray 42)) (.cells (dlL dl0 none 0).toArray 42); rw [World.size_alloc] at this; exact this)
  have HNm := hide hNm
  clear h59 h58 hl hNm
  go_enter Tryd.func12, Tryd.ntmps12
  go_wp2_with fail
  refine (HF.out _).mono ?_
  rintro e w1 ⟨rfl, rfl⟩
  go_wp2_with fail
  refine (HTm.out _).mono ?_
  rintro e w1 ⟨rfl, rfl⟩
  go_wp2_with fail
  refine (HG.out _).mono ?_
  rintro e w1 ⟨rfl, rfl⟩
  simp only [dlL, dl0] at HB HR HD
  generalize (w.alloc (.cells #[.string ⟨#[]⟩, .bool false, .string ⟨#[]⟩, .slice none 0 0, .int .i64 0, .bool false] 42)).alloc (.cells #[.string ⟨#[]⟩, .bool false, .string ⟨#[]⟩, .slice none 0 0, .int .i64 0, .bool false] 42) = W at *
  go_wp2_with fail
  refine (HL.out _).mono ?_
  rintro e w1 ⟨rfl, rfl⟩
  have frg := fun j => HD.out.frz j
  obtain ⟨q0, q1, q2, q3, q4, q5⟩ := HD.out.cells
  simp only at q0 q1 q2 q3 q4 q5
  go_wp2_with fail
  refine (HT2.out _).mono ?_
  rintro e w1 ⟨rfl, rfl⟩
  have HDz := hide ((HD.out.label a).lab true)
  have HRz := hide ((HR.out.other (k := w.heap.size + 1) (j := 0) (.string ⟨a.toArray⟩) (by omega)).other (k := w.heap.size + 1) (j := 1) (.bool true) (by omega))
  have HBz := hide ((HB.out.setCell (p := ⟨w.heap.size + 1, 0, none⟩) (by simp) (.string ⟨a.toArray⟩)).setCell (p := ⟨w.heap.size + 1, 1, none⟩) (by simp) (.bool true))
  clear frg q0 q1 q2 q3 q4 q5 HD HR HB HF HTm HG HL HT2 e8 f8 hk8 hk8I hk7I hbl
  simp only at HDz
  have HD := HDz
  have HR := HRz
  have HB := HBz
  clear HDz HRz HBz
  generalize (w1.setCell ⟨w.heap.size + 1, 0, none⟩ (.string ⟨a.toArray⟩)).setCell ⟨w.heap.size + 1, 1, none⟩ (.bool true) = Wz at *
  obtain ⟨W, hW⟩ : ∃ W, W = Wz := ⟨_, rfl⟩
  subst hW
  generalize trimT b = u at *
  rcases u with _ | ⟨x0, u0⟩
  · have fr := fun j => HR.out.frz j
    obtain ⟨r0, r1, r2, r3, r4, r5⟩ := HR.out.cells
    obtain ⟨q0, q1, q2, q3, q4, q5⟩ := HD.out.cells
    have HS := hide (dl_sets HR.out (⟨a, true, [], [], 0, false⟩ : Dl) none 0)
    go_wp2
    refine bodyPost_ret (results_cell_row rfl _ _ w.heap.size 42 (dlL (⟨a, true, [], [], 0, false⟩ : Dl) none 0).toArray (0, 0) _ rfl HS.out Tryd.underlying42 rfl info_dl) rfl ?_
    exact ⟨none, 0, by rw [HV.out] <;> rfl, by rw [HV.out]; exact own_six (World.ownsRow_nil _ _ _ _) HR.out, six HB.out (Nat.le_refl _)⟩
  · have hne : x0 :: u0 ≠ [] := by simp
    go_upto_region 16 with fail
    generalize x0 :: u0 = u at *
    go_loopw [5] (fun v wr => ∃ i : Nat, v = .int .i64 (i : Int) ∧ i ≤ u.length ∧ Hid (∀ j (hj : j < u.length), j < i → ([32, 9] : Tx).contains u[j] = false) ∧ wr = W) (fun v _ => u.length - (intOf v).toNat)
    case atStart => exact ⟨0, rfl, by omega, hide (fun j _ h => by omega), rfl⟩
    case round =>
    obtain ⟨i, rfl, hi, HNo, hWr⟩ := hrel
    subst hWr
    go_upto_region 16 with fail
    go_cut [59] from 44 to 61 (fun v wx => v = .bool (cnB u i) ∧ wx = wr)
    case first =>
      by_cases hlt : i < u.length
      · have hltI : (i : Int) < (u.length : Int) := by omega
        obtain ⟨d, hd⟩ : ∃ d, u[i] = d := ⟨_, rfl⟩
        have hg : (⟨u.toArray⟩ : ByteArray)[i]'hlt = d := hd
        have HC := hide (cn_at hlt hd)
        rw [bl_or] at HC
        clear HNo
        by_cases h32 : (d.toNat : Int) = 32
        · have hb : ((d.toNat : Int) == 32) = true := by rw [beq_iff_eq]; exact h32
          have hbn : ((d.toNat : Int) != 32) = false := by unfold bne; rw [hb]; rfl
          rw [hb] at HC
          clear h32
          go_wp2_with fail
          go_meet
          case rel => exact ⟨by rw [HC.out] <;> rfl, rfl⟩
        · have hb : ((d.toNat : Int) == 32) = false := by rw [beq_eq_false_iff_ne]; exact h32
          have hbn : ((d.toNat : Int) != 32) = true := by unfold bne; rw [hb]; rfl
          by_cases h9 : (d.toNat : Int) = 9
          · have hb9 : ((d.toNat : Int) == 9) = true := by rw [beq_iff_eq]; exact h9
            have hb9n : ((d.toNat : Int) != 9) = false := by unfold bne; rw [hb9]; rfl
            rw [hb, hb9] at HC
            clear h32 h9
            go_wp2_with fail
            go_meet
            case rel => exact ⟨by rw [HC.out] <;> rfl, rfl⟩
          · have hb9 : ((d.toNat : Int) == 9) = false := by rw [beq_eq_false_iff_ne]; exact h9
            have hb9n : ((d.toNat : Int) != 9) = true := by unfold bne; rw [hb9]; rfl
            rw [hb, hb9] at HC
            clear h32 h9
            go_wp2_with fail
            go_meet
            case rel => exact ⟨by rw [HC.out] <;> rfl, rfl⟩
      · have hltI : ¬ (i : Int) < (u.length : Int) := by omega
        have HC := hide (cn_end hlt)
        clear HNo
        go_wp2_with fail
        go_meet
        case rel => exact ⟨by rw [HC.out] <;> rfl, rfl⟩
    case rest =>
    obtain ⟨hv, hw⟩ := hcut
    subst hv
    subst hw
    cases hcn : cnB u i with
    | true =>
      have hlt : i < u.length := by by_cases h : i < u.length; exact h; rw [cn_end h] at hcn; cases hcn
      have HN2 : Hid (∀ j (hj : j < u.length), j < i + 1 → ([32, 9] : Tx).contains u[j] = false) := hide (fun j hj h => by
        by_cases e : j = i
        · subst e; have := cn_at hj rfl; rw [hcn] at this; simpa using this.symm
        · exact HNo.out j hj (by omega))
      clear HNo
      go_wp2
      refine ⟨⟨i + 1, by simp, by omega, HN2, trivial⟩, ?_⟩
      simp [intOf]
      omega
    | false =>
      have HSt := hide (fun F hF => stD_eq (F := F) hne hi HNo.out hcn hF)
      clear HNo hcn hne
      have e3 : (⟨u.toArray⟩ : ByteArray).extract 0 i = ⟨(u.take i).toArray⟩ := by rw [ext_mk]; simp
      have e4 : (⟨u.toArray⟩ : ByteArray).extract i u.length = ⟨(u.drop i).toArray⟩ := by rw [ext_mk]; simp
      have hiI : (i : Int) ≤ (u.length : Int) := by omega
      have hdl : (u.drop i).length ≤ 16384 := by simp; omega
      have HTr := hide (fun W => trimmed_any W (u.drop i) hdl)
      have hRl : (trimT (u.drop i)).length ≤ 16384 := by have := trimT_len (u.drop i); omega
      obtain ⟨R, hR⟩ : ∃ R, trimT (u.drop i) = R := ⟨_, rfl⟩
      rw [hR] at HSt HTr hRl
      clear hR
      generalize u.drop i = dr at *
      generalize u.take i = nme at *
      have frg := fun j => HD.out.frz j
      obtain ⟨q0, q1, q2, q3, q4, q5⟩ := HD.out.cells
      simp only at q0 q1 q2 q3 q4 q5
      go_wp2_with fail
      refine (HTr.out _).mono ?_
      rintro e w1 ⟨rfl, rfl⟩
      have HD2 := hide (HD.out.name nme)
      have HR2 := hide (HR.out.other (k := w.heap.size + 1) (j := 2) (.string ⟨nme.toArray⟩) (by omega))
      have HB2 := hide (HB.out.setCell (p := ⟨w.heap.size + 1, 2, none⟩) (by simp) (.string ⟨nme.toArray⟩))
      clear frg q0 q1 q2 q3 q4 q5 HTr HD HR HB
      generalize wc.setCell ⟨w.heap.size + 1, 2, none⟩ (.string ⟨nme.toArray⟩) = W2 at *
      rcases R with _ | ⟨y0, R0⟩
      · have HVL : Hid (L = ⟨a, true, nme, [], (frm nme []).1, !(frm nme []).2⟩) := hide (by rw [HV.out, HSt.out [] rfl])
        have HOx := hide (World.ownsRow_nil W2 w.heap.size 9 1)
        have hFf : ∀ f ∈ ([] : List Tx), f.length ≤ 16384 := by simp
        have hFl : ([] : List Tx).length ≤ 16385 := by simp
        have HBx := HB2
        have HRx := HR2
        have HDx := HD2
        clear HB2 HR2 HD2 HSt HV
        have HFm := hide (formed_any W2 nme none 0 [] hFf hFl (own_SR HOx.out) (HNm.out.below HBx.out))
        have frg := fun j => HDx.out.frz j
        obtain ⟨q0, q1, q2, q3, q4, q5⟩ := HDx.out.cells
        simp only at q0 q1 q2 q3 q4 q5
        obtain ⟨z, hz⟩ : ∃ z, (frm nme []).1 = z := ⟨_, rfl⟩
        obtain ⟨ok, hok⟩ : ∃ ok, (frm nme []).2 = ok := ⟨_, rfl⟩
        rw [hz, hok] at HVL
        rw [hz, hok] at HFm
        clear hz hok
        go_wp2_with fail
        refine HFm.out.mono ?_
        rintro e w1 ⟨rfl, rfl⟩
        go_upto_region 29 with fail
        have HD9 := hide ((HDx.out.words z).bad (!ok))
        have HR9 := hide ((HRx.out.other (k := w.heap.size + 1) (j := 4) (.int .i64 z) (by omega)).other (k := w.heap.size + 1) (j := 5) (.bool (!ok)) (by omega))
        have HO9 := hide (own_set (own_set HOx.out HDx.out (j := 4) (.int .i64 z)) (HDx.out.words z) (j := 5) (.bool (!ok)))
        have HB9 := hide ((HBx.out.setCell (p := ⟨w.heap.size + 1, 4, none⟩) (by simp) (.int .i64 z)).setCell (p := ⟨w.heap.size + 1, 5, none⟩) (by simp) (.bool (!ok)))
        clear frg q0 q1 q2 q3 q4 q5 HFm HDx HRx HOx HBx
        generalize (w1.setCell ⟨w.heap.size + 1, 4, none⟩ (.int .i64 z)).setCell ⟨w.heap.size + 1, 5, none⟩ (.bool (!ok)) = Y at *
        have fr := fun j => HR9.out.frz j
        obtain ⟨r0, r1, r2, r3, r4, r5⟩ := HR9.out.cells
        obtain ⟨q0, q1, q2, q3, q4, q5⟩ := HD9.out.cells
        have HS := hide (dl_sets HR9.out (⟨a, true, nme, [], z, !ok⟩ : Dl) none 0)
        simp only at q0 q1 q2 q3 q4 q5 HS
        go_wp2
        refine bodyPost_ret (results_cell_row rfl _ _ w.heap.size 42 (dlL (⟨a, true, nme, [], z, !ok⟩ : Dl) none 0).toArray (0, 0) _ rfl HS.out Tryd.underlying42 rfl info_dl) rfl ?_
        exact ⟨none, 0, by rw [HVL.out] <;> rfl, by rw [HVL.out]; exact own_six HO9.out HR9.out, six HB9.out (Nat.le_refl _)⟩
      · have hRn : y0 :: R0 ≠ [] := by simp
        have HVL0 : Hid (∀ F, F = (splitT 44 (y0 :: R0)).map trimT → L = ⟨a, true, nme, F, (frm nme F).1, !(frm nme F).2⟩) := hide (fun F hF => by rw [HV.out, HSt.out F (by rw [if_neg hRn]; exact hF)])
        have HPc := hide (fun W => pieces_any W (y0 :: R0) 44 hRl)
        have hcnt := split_count 44 (y0 :: R0)
        have HPl : Hid (∀ p ∈ splitT 44 (y0 :: R0), p.length ≤ 16384) := hide (fun p hp => by have := split_len 44 (y0 :: R0) p hp; omega)
        clear HSt HV hRn
        go_wp2_with fail
        refine (HPc.out _).mono ?_
        rintro e w3 ⟨v, rfl, ho3, hb3⟩
        obtain ⟨ap, cp, rfl⟩ := own_shape ho3
        have HSp := hide (own_SR ho3)
        have HNg : Hid (∀ x, ap = some x → x.block ≠ w.heap.size + 1) := hide (fun x hx => by subst hx; have := (ho3.lt x.block rfl).1; have := HD2.out.lt; omega)
        have HD3 := hide (HD2.out.keep hb3)
        have HR3 := hide (HR2.out.keep hb3)
        have HB3 := hide (HB2.out.trans (hb3.mono HB2.out.size))
        have hs3 := hb3.size
        have hg3 := HD2.out.lt
        clear ho3 hb3 HD2 HR2 HB2 HPc
        generalize hps : splitT 44 (y0 :: R0) = ps at *
        clear hps
        have hcn2 : ps.length ≤ 16385 := by simp only [List.length_cons] at hcnt hRl; omega
        clear hcnt
        obtain ⟨i9, hi9, hz9, hsz9, hb9⟩ := info_str
        go_upto_region 23 with fail
        go_loopw [8] (fun v wr => ∃ (j : Nat) (fo : Option Addr) (c : Nat), v = .int .i64 (j : Int) ∧ j ≤ ps.length ∧ Hid (wr.ownsRow w3.heap.size 9 1 (.slice fo j c) j (strs ((ps.take j).map trimT))) ∧ Hid (DlA wr (w.heap.size + 1) (⟨a, true, nme, (ps.take j).map trimT, 0, false⟩ : Dl) fo c) ∧ Hid (Kp (w.heap.size + 1) w3 wr)) (fun v _ => ps.length - (intOf v).toNat)
        case atStart => exact ⟨0, none, 0, rfl, by omega, hide (World.ownsRow_nil _ _ _ _), HD3, hide (Kp.refl _ _)⟩
        case round =>
        obtain ⟨j, fo, c, rfl, hj, HOw, HDw, HKw⟩ := hrel
        by_cases hlt : j < ps.length
        · have hltI : (j : Int) < (ps.length : Int) := by omega
          obtain ⟨x, hx, cx⟩ := HSp.out j hlt
          subst hx
          have hxb := HNg.out x rfl
          have hjl : ((ps.take j).map trimT).length = j := by simp; omega
          have HE : Hid ((ps.take (j + 1)).map trimT = (ps.take j).map trimT ++ [trimT ps[j]]) := hide (by rw [List.take_succ_eq_append_getElem hlt, List.map_append]; rfl)
          have HTr := hide (fun W => (trimmed_sym W ps[j] (HPl.out _ (List.getElem_mem hlt))))
          generalize ps[j] = p at *
          go_upto_region 25 with fail
          have hcx := HKw.out.cl cx (by rw [add_blk]; exact hxb)
          obtain ⟨wd, hwd⟩ : ∃ wd, wd = wr.drew := ⟨_, rfl⟩
          have HOd : Hid (wd.ownsRow w3.heap.size 9 1 (.slice fo j c) j (strs ((ps.take j).map trimT))) := by rw [hwd]; exact hide HOw.out
          have HDd : Hid (DlA wd (w.heap.size + 1) (⟨a, true, nme, (ps.take j).map trimT, 0, false⟩ : Dl) fo c) := by rw [hwd]; exact hide HDw.out
          have HKd : Hid (Kp (w.heap.size + 1) w3 wd) := by rw [hwd]; exact hide HKw.out.drew
          have HSd : Hid (wd.cell? (x.add j) = some (.string ⟨p.toArray⟩)) := by rw [hwd]; exact hide hcx
          refine wp_region_held_drew (S := fun W => W.cell? (x.add j) = some (.string ⟨p.toArray⟩)) (by kernel_rfl) (by rw [← hwd]; exact HSd.out) (fun hHeld => ?_)
          rw [← hwd]
          have cxK := hide cx
          clear hwd hHeld hcx cx HOw HDw HKw
          obtain ⟨-, -, -, q3, -, -⟩ := HDd.out.cells
          simp only [hjl] at q3
          refine hd_take 0 (o := ⟨some 80, _, _, _, _, _⟩) (.pointer (some ⟨w.heap.size + 1, 3, none⟩)) (by kernel_rfl) (by kernel_rfl) (by kernel_rfl) rfl (by rfl) (fun W hSw => by go_simp) (fun _ _ _ h => h) HSd.out ?_
          simp only [Act.put, List.setIfInBounds_toArray, List.set_cons_zero, List.set_cons_succ]
          refine hd_take 2 (o := ⟨some 82, _, _, _, _, _⟩) (.slice (some x) ps.length cp) (by kernel_rfl) (by kernel_rfl) (by kernel_rfl) rfl (by rfl) (fun W hSw => by go_simp) (fun _ _ _ h => h) HSd.out ?_
          simp only [Act.put, List.setIfInBounds_toArray, List.set_cons_zero, List.set_cons_succ]
          refine hd_take 3 (o := ⟨some 83, _, _, _, _, _⟩) (.int .i64 (j : Int)) (by kernel_rfl) (by kernel_rfl) (by kernel_rfl) rfl (by rfl) (fun W hSw => by go_simp) (fun _ _ _ h => h) HSd.out ?_
          simp only [Act.put, List.setIfInBounds_toArray, List.set_cons_zero, List.set_cons_succ]
          refine hd_take 4 (o := ⟨some 84, _, _, _, _, _⟩) (.pointer (some (x.add j))) (by kernel_rfl) (by kernel_rfl) (by kernel_rfl) rfl (by rfl) (fun W hSw => by go_simp) (fun _ _ _ h => h) HSd.out ?_
          simp only [Act.put, List.setIfInBounds_toArray, List.set_cons_zero, List.set_cons_succ]
          refine hd_take 5 (o := ⟨some 85, _, _, _, _, _⟩) (.string ⟨p.toArray⟩) (by kernel_rfl) (by kernel_rfl) (by kernel_rfl) rfl (by rfl) (fun W hSw => by go_simp) (fun _ _ _ h => h) HSd.out ?_
          simp only [Act.put, List.setIfInBounds_toArray, List.set_cons_zero, List.set_cons_succ]
          refine hd_both 1 6 (o1 := ⟨some 81, _, _, _, _, _⟩) (o2 := ⟨some 86, _, _, _, _, _⟩) (by kernel_rfl) rfl rfl (by rfl) (by rfl) (fun K' hK => ?_) (fun K' hK => ?_)
          · skip
            go_simp
            refine hK _ _ HSd.out ?_
            clear hK K'
            try simp only [Act.put, List.setIfInBounds_toArray, List.set_cons_zero, List.set_cons_succ]
            refine hd_call 6 (o := ⟨some 86, _, _, _, _, _⟩) (by kernel_rfl) rfl (by rfl) (fun K' hK => ?_)
            go_simp
            go_wp2_with (go_at_call 19; refine (HTr.out _).mono ?_; rintro e1 w9 ⟨rfl, hw9⟩; subst hw9)
            refine hK _ _ HSd.out ?_
            clear hK K'
            try simp only [Act.put, List.setIfInBounds_toArray, List.set_cons_zero, List.set_cons_succ]
            refine hd_call 7 (o := ⟨some 87, _, _, _, _, _⟩) (by kernel_rfl) rfl (by rfl) (fun K' hK => ?_)
            have HSe : Hid ((wd.alloc (.cells #[.string ⟨(trimT p).toArray⟩] 9)).cell? (x.add j) = some (.string ⟨p.toArray⟩)) := hide (by rw [World.cell?_alloc_lt _ _ _ (cell_blk HSd.out)]; exact HSd.out)
            have q3e : (wd.alloc (.cells #[.string ⟨(trimT p).toArray⟩] 9)).cell? ⟨w.heap.size + 1, 3, none⟩ = some (.slice fo j c) := by rw [World.cell?_alloc_lt _ _ _ (cell_blk q3)]; exact q3
            go_simp
            refine hK _ _ HSe.out ?_
            clear hK K'
            try simp only [Act.put, List.setIfInBounds_toArray, List.set_cons_zero, List.set_cons_succ]
            refine hd_call 8 (o := ⟨some 88, _, _, _, _, _⟩) (by kernel_rfl) rfl (by rfl) (fun K' hK => ?_)
            refine wp_append_own _ _ _ 38 rfl w3.heap.size 9 i9 (.string ⟨#[]⟩) 1 16 Tryd.underlying38 hi9 hz9 hsz9 hb9 rfl (by decide) (.slice fo j c) j _ rfl (HOd.out.alloc _) ⟨_, 0, none⟩ 1 1 [.string ⟨(trimT p).toArray⟩] rfl rfl (cell_one_new _ _ _) (by simp [Value.oneCell']) (by unfold maxLen; omega) (by omega) (by have := HKd.out.size; simp; omega) ?_
            intro v4 w4 ho4 hg4 _
            obtain ⟨a4, c4, rfl⟩ := own_shape ho4
            have hDa : DlA (wd.alloc (.cells #[.string ⟨(trimT p).toArray⟩] 9)) (w.heap.size + 1) (⟨a, true, nme, (ps.take j).map trimT, 0, false⟩ : Dl) fo c := HDd.out.keep (bel1 _ _)
            have HD4 := hide (hDa.grown (HOd.out.alloc _) hg4)
            have HK4 := hide ((HKd.out.alloc (.cells #[.string ⟨(trimT p).toArray⟩] 9)).grown hg4 (fun k hk => (HOd.out.lt k hk).1))
            have HO4 := hide ho4
            have HS4 := hide (HK4.out.cl cxK.out (by rw [add_blk]; exact hxb))
            clear ho4 hg4 hDa
            refine hK _ _ HS4.out ?_
            clear hK K'
            try simp only [Act.put, List.setIfInBounds_toArray, List.set_cons_zero, List.set_cons_succ]
            refine hd_take 9 (o := ⟨some 89, _, _, _, _, _⟩) (.pointer (some ⟨w.heap.size + 1, 3, none⟩)) (by kernel_rfl) (by kernel_rfl) (by kernel_rfl) rfl (by rfl) (fun W hSw => by go_simp) (fun _ _ _ h => h) HS4.out ?_
            simp only [Act.put, List.setIfInBounds_toArray, List.set_cons_zero, List.set_cons_succ]
            have HD5 := hide (HD4.out.fields ((ps.take j).map trimT ++ [trimT p]) a4 c4 (j + 1) (by simp; omega))
            have HK5 := hide (HK4.out.set (j := 3) (.slice a4 (j + 1) c4))
            have HO5 := hide (own_set HO4.out HD4.out (j := 3) (.slice a4 (j + 1) c4))
            have HS5 := hide (HK5.out.cl cxK.out (by rw [add_blk]; exact hxb))
            obtain ⟨-, -, -, q34, -, -⟩ := HD4.out.cells
            have fr4 := HD4.out.frz 3
            refine hd_call 10 (o := ⟨none, _, _, _, _, _⟩) (by kernel_rfl) rfl (by rfl) (fun K' hK => ?_)
            go_simp
            refine hK _ _ HS5.out ?_
            clear hK K'
            try simp only [Act.put, List.setIfInBounds_toArray, List.set_cons_zero, List.set_cons_succ]
            refine wpAnyH_done (by kernel_rfl) ?_ _
            clear q34 fr4 HD4 HK4 HO4 HS4
            go_wp2
            refine ⟨⟨j + 1, a4, c4, by simp, by omega, hide (by rw [HE.out]; simpa [strs] using HO5.out), hide (by rw [HE.out]; exact HD5.out), HK5⟩, ?_⟩
            simp [intOf]
            omega
          · skip
            go_simp
            go_wp2_with (go_at_call 19; refine (HTr.out _).mono ?_; rintro e1 w9 ⟨rfl, hw9⟩; subst hw9)
            refine hK _ _ HSd.out ?_
            clear hK K'
            try simp only [Act.put, List.setIfInBounds_toArray, List.set_cons_zero, List.set_cons_succ]
            refine hd_both 1 7 (o1 := ⟨some 81, _, _, _, _, _⟩) (o2 := ⟨some 87, _, _, _, _, _⟩) (by kernel_rfl) rfl rfl (by rfl) (by rfl) (fun K' hK => ?_) (fun K' hK => ?_)
            · skip
              go_simp
              refine hK _ _ HSd.out ?_
              clear hK K'
              try simp only [Act.put, List.setIfInBounds_toArray, List.set_cons_zero, List.set_cons_succ]
              refine hd_call 7 (o := ⟨some 87, _, _, _, _, _⟩) (by kernel_rfl) rfl (by rfl) (fun K' hK => ?_)
              have HSe : Hid ((wd.alloc (.cells #[.string ⟨(trimT p).toArray⟩] 9)).cell? (x.add j) = some (.string ⟨p.toArray⟩)) := hide (by rw [World.cell?_alloc_lt _ _ _ (cell_blk HSd.out)]; exact HSd.out)
              have q3e : (wd.alloc (.cells #[.string ⟨(trimT p).toArray⟩] 9)).cell? ⟨w.heap.size + 1, 3, none⟩ = some (.slice fo j c) := by rw [World.cell?_alloc_lt _ _ _ (cell_blk q3)]; exact q3
              go_simp
              refine hK _ _ HSe.out ?_
              clear hK K'
              try simp only [Act.put, List.setIfInBounds_toArray, List.set_cons_zero, List.set_cons_succ]
              refine hd_call 8 (o := ⟨some 88, _, _, _, _, _⟩) (by kernel_rfl) rfl (by rfl) (fun K' hK => ?_)
              refine wp_append_own _ _ _ 38 rfl w3.heap.size 9 i9 (.string ⟨#[]⟩) 1 16 Tryd.underlying38 hi9 hz9 hsz9 hb9 rfl (by decide) (.slice fo j c) j _ rfl (HOd.out.alloc _) ⟨_, 0, none⟩ 1 1 [.string ⟨(trimT p).toArray⟩] rfl rfl (cell_one_new _ _ _) (by simp [Value.oneCell']) (by unfold maxLen; omega) (by omega) (by have := HKd.out.size; simp; omega) ?_
              intro v4 w4 ho4 hg4 _
              obtain ⟨a4, c4, rfl⟩ := own_shape ho4
              have hDa : DlA (wd.alloc (.cells #[.string ⟨(trimT p).toArray⟩] 9)) (w.heap.size + 1) (⟨a, true, nme, (ps.take j).map trimT, 0, false⟩ : Dl) fo c := HDd.out.keep (bel1 _ _)
              have HD4 := hide (hDa.grown (HOd.out.alloc _) hg4)
              have HK4 := hide ((HKd.out.alloc (.cells #[.string ⟨(trimT p).toArray⟩] 9)).grown hg4 (fun k hk => (HOd.out.lt k hk).1))
              have HO4 := hide ho4
              have HS4 := hide (HK4.out.cl cxK.out (by rw [add_blk]; exact hxb))
              clear ho4 hg4 hDa
              refine hK _ _ HS4.out ?_
              clear hK K'
              try simp only [Act.put, List.setIfInBounds_toArray, List.set_cons_zero, List.set_cons_succ]
              refine hd_take 9 (o := ⟨some 89, _, _, _, _, _⟩) (.pointer (some ⟨w.heap.size + 1, 3, none⟩)) (by kernel_rfl) (by kernel_rfl) (by kernel_rfl) rfl (by rfl) (fun W hSw => by go_simp) (fun _ _ _ h => h) HS4.out ?_
              simp only [Act.put, List.setIfInBounds_toArray, List.set_cons_zero, List.set_cons_succ]
              have HD5 := hide (HD4.out.fields ((ps.take j).map trimT ++ [trimT p]) a4 c4 (j + 1) (by simp; omega))
              have HK5 := hide (HK4.out.set (j := 3) (.slice a4 (j + 1) c4))
              have HO5 := hide (own_set HO4.out HD4.out (j := 3) (.slice a4 (j + 1) c4))
              have HS5 := hide (HK5.out.cl cxK.out (by rw [add_blk]; exact hxb))
              obtain ⟨-, -, -, q34, -, -⟩ := HD4.out.cells
              have fr4 := HD4.out.frz 3
              refine hd_call 10 (o := ⟨none, _, _, _, _, _⟩) (by kernel_rfl) rfl (by rfl) (fun K' hK => ?_)
              go_simp
              refine hK _ _ HS5.out ?_
              clear hK K'
              try simp only [Act.put, List.setIfInBounds_toArray, List.set_cons_zero, List.set_cons_succ]
              refine wpAnyH_done (by kernel_rfl) ?_ _
              clear q34 fr4 HD4 HK4 HO4 HS4
              go_wp2
              refine ⟨⟨j + 1, a4, c4, by simp, by omega, hide (by rw [HE.out]; simpa [strs] using HO5.out), hide (by rw [HE.out]; exact HD5.out), HK5⟩, ?_⟩
              simp [intOf]
              omega
            · skip
              have HSe : Hid ((wd.alloc (.cells #[.string ⟨(trimT p).toArray⟩] 9)).cell? (x.add j) = some (.string ⟨p.toArray⟩)) := hide (by rw [World.cell?_alloc_lt _ _ _ (cell_blk HSd.out)]; exact HSd.out)
              have q3e : (wd.alloc (.cells #[.string ⟨(trimT p).toArray⟩] 9)).cell? ⟨w.heap.size + 1, 3, none⟩ = some (.slice fo j c) := by rw [World.cell?_alloc_lt _ _ _ (cell_blk q3)]; exact q3
              go_simp
              refine hK _ _ HSe.out ?_
              clear hK K'
              try simp only [Act.put, List.setIfInBounds_toArray, List.set_cons_zero, List.set_cons_succ]
              refine hd_call 1 (o := ⟨some 81, _, _, _, _, _⟩) (by kernel_rfl) rfl (by rfl) (fun K' hK => ?_)
              go_simp
              refine hK _ _ HSe.out ?_
              clear hK K'
              try simp only [Act.put, List.setIfInBounds_toArray, List.set_cons_zero, List.set_cons_succ]
              refine hd_call 8 (o := ⟨some 88, _, _, _, _, _⟩) (by kernel_rfl) rfl (by rfl) (fun K' hK => ?_)
              refine wp_append_own _ _ _ 38 rfl w3.heap.size 9 i9 (.string ⟨#[]⟩) 1 16 Tryd.underlying38 hi9 hz9 hsz9 hb9 rfl (by decide) (.slice fo j c) j _ rfl (HOd.out.alloc _) ⟨_, 0, none⟩ 1 1 [.string ⟨(trimT p).toArray⟩] rfl rfl (cell_one_new _ _ _) (by simp [Value.oneCell']) (by unfold maxLen; omega) (by omega) (by have := HKd.out.size; simp; omega) ?_
              intro v4 w4 ho4 hg4 _
              obtain ⟨a4, c4, rfl⟩ := own_shape ho4
              have hDa : DlA (wd.alloc (.cells #[.string ⟨(trimT p).toArray⟩] 9)) (w.heap.size + 1) (⟨a, true, nme, (ps.take j).map trimT, 0, false⟩ : Dl) fo c := HDd.out.keep (bel1 _ _)
              have HD4 := hide (hDa.grown (HOd.out.alloc _) hg4)
              have HK4 := hide ((HKd.out.alloc (.cells #[.string ⟨(trimT p).toArray⟩] 9)).grown hg4 (fun k hk => (HOd.out.lt k hk).1))
              have HO4 := hide ho4
              have HS4 := hide (HK4.out.cl cxK.out (by rw [add_blk]; exact hxb))
              clear ho4 hg4 hDa
              refine hK _ _ HS4.out ?_
              clear hK K'
              try simp only [Act.put, List.setIfInBounds_toArray, List.set_cons_zero, List.set_cons_succ]
              refine hd_take 9 (o := ⟨some 89, _, _, _, _, _⟩) (.pointer (some ⟨w.heap.size + 1, 3, none⟩)) (by kernel_rfl) (by kernel_rfl) (by kernel_rfl) rfl (by rfl) (fun W hSw => by go_simp) (fun _ _ _ h => h) HS4.out ?_
              simp only [Act.put, List.setIfInBounds_toArray, List.set_cons_zero, List.set_cons_succ]
              have HD5 := hide (HD4.out.fields ((ps.take j).map trimT ++ [trimT p]) a4 c4 (j + 1) (by simp; omega))
              have HK5 := hide (HK4.out.set (j := 3) (.slice a4 (j + 1) c4))
              have HO5 := hide (own_set HO4.out HD4.out (j := 3) (.slice a4 (j + 1) c4))
              have HS5 := hide (HK5.out.cl cxK.out (by rw [add_blk]; exact hxb))
              obtain ⟨-, -, -, q34, -, -⟩ := HD4.out.cells
              have fr4 := HD4.out.frz 3
              refine hd_call 10 (o := ⟨none, _, _, _, _, _⟩) (by kernel_rfl) rfl (by rfl) (fun K' hK => ?_)
              go_simp
              refine hK _ _ HS5.out ?_
              clear hK K'
              try simp only [Act.put, List.setIfInBounds_toArray, List.set_cons_zero, List.set_cons_succ]
              refine wpAnyH_done (by kernel_rfl) ?_ _
              clear q34 fr4 HD4 HK4 HO4 HS4
              go_wp2
              refine ⟨⟨j + 1, a4, c4, by simp, by omega, hide (by rw [HE.out]; simpa [strs] using HO5.out), hide (by rw [HE.out]; exact HD5.out), HK5⟩, ?_⟩
              simp [intOf]
              omega
        · have ej : j = ps.length := by omega
          have hltI : ¬ (j : Int) < (ps.length : Int) := by omega
          subst ej
          rw [List.take_length] at HOw HDw
          obtain ⟨F, hF⟩ : ∃ F, F = ps.map trimT := ⟨_, rfl⟩
          have hFn : F.length = ps.length := by rw [hF]; simp
          have HVL := hide (HVL0.out F hF)
          have hFf : ∀ f ∈ F, f.length ≤ 16384 := by rw [hF]; intro f hf; obtain ⟨p, hp, rfl⟩ := List.mem_map.1 hf; have := HPl.out p hp; have := trimT_len p; omega
          have hFl : F.length ≤ 16385 := by omega
          rw [← hF] at HOw HDw
          rw [← hFn] at HOw hltI ⊢
          have HOx := hide (own_base HOw.out (show w.heap.size ≤ w3.heap.size by omega))
          have HBx := hide (Kp.below HB3.out HKw.out (by omega) (by omega))
          have HRx := hide (HKw.out.dl HR3.out (by omega))
          have HDx := HDw
          clear HVL0 HPl HSp HNg HD3 HR3 HB3 HKw HOw HDw hF hFn
          have HFm := hide (formed_any wr nme fo c F hFf hFl (own_SR HOx.out) (HNm.out.below HBx.out))
          have frg := fun j => HDx.out.frz j
          obtain ⟨q0, q1, q2, q3, q4, q5⟩ := HDx.out.cells
          simp only at q0 q1 q2 q3 q4 q5
          obtain ⟨z, hz⟩ : ∃ z, (frm nme F).1 = z := ⟨_, rfl⟩
          obtain ⟨ok, hok⟩ : ∃ ok, (frm nme F).2 = ok := ⟨_, rfl⟩
          rw [hz, hok] at HVL
          rw [hz, hok] at HFm
          clear hz hok
          go_wp2_with fail
          refine HFm.out.mono ?_
          rintro e w1 ⟨rfl, rfl⟩
          go_upto_region 29 with fail
          have HD9 := hide ((HDx.out.words z).bad (!ok))
          have HR9 := hide ((HRx.out.other (k := w.heap.size + 1) (j := 4) (.int .i64 z) (by omega)).other (k := w.heap.size + 1) (j := 5) (.bool (!ok)) (by omega))
          have HO9 := hide (own_set (own_set HOx.out HDx.out (j := 4) (.int .i64 z)) (HDx.out.words z) (j := 5) (.bool (!ok)))
          have HB9 := hide ((HBx.out.setCell (p := ⟨w.heap.size + 1, 4, none⟩) (by simp) (.int .i64 z)).setCell (p := ⟨w.heap.size + 1, 5, none⟩) (by simp) (.bool (!ok)))
          clear frg q0 q1 q2 q3 q4 q5 HFm HDx HRx HOx HBx
          generalize (w1.setCell ⟨w.heap.size + 1, 4, none⟩ (.int .i64 z)).setCell ⟨w.heap.size + 1, 5, none⟩ (.bool (!ok)) = Y at *
          have fr := fun j => HR9.out.frz j
          obtain ⟨r0, r1, r2, r3, r4, r5⟩ := HR9.out.cells
          obtain ⟨q0, q1, q2, q3, q4, q5⟩ := HD9.out.cells
          have HS := hide (dl_sets HR9.out (⟨a, true, nme, F, z, !ok⟩ : Dl) fo c)
          simp only at q0 q1 q2 q3 q4 q5 HS
          go_wp2
          refine bodyPost_ret (results_cell_row rfl _ _ w.heap.size 42 (dlL (⟨a, true, nme, F, z, !ok⟩ : Dl) fo c).toArray (0, 0) _ rfl HS.out Tryd.underlying42 rfl info_dl) rfl ?_
          exact ⟨fo, c, by rw [HVL.out] <;> rfl, by rw [HVL.out]; exact own_six HO9.out HR9.out, six HB9.out (Nat.le_refl _)⟩
end
end Go.Proofs.YtbfagiofhakjnaaDoor

namespace Go.Proofs.YtbfagiofhakjnaaDoor
open Go.RowKit
section
variable (w : World)
set_option maxRecDepth 100000 in
set_option maxHeartbeats 4000000 in
theorem parsed_sg (s : Tx) (a b : Tx) (a9 b9 : Tx) (hl : s.length ≤ 16384) (hNm : Nms w) (h59 : cutT [59] s = some (a9, b9)) (h58 : cutT [58] (trimT a9) = some (a, b)) (hA : isLbl a = true) : Calls Tryd.prog 12 #[.string ⟨s.toArray⟩] w fun e w' => ∃ fo c, e = .returned (.agg (dlL (lineD s) fo c).toArray) ∧ w'.ownsRow w.heap.size 9 1 (.slice fo (lineD s).fields.length c) (lineD s).fields.length (strs (lineD s).fields) ∧ Below w.heap.size w w' := by
  have HV : Hid (lineD s = { stD (trimT b) with label := a, lab := true }) := hide (by unfold lineD; rw [h59]; simp only [Option.getD_some]; rw [h58]; simp only; rw [hA]; rfl)
  have HF := hide (fun W => find_any W s 59 hl)
  rw [fnd_some h59] at HF
  have hs9 := cut_split h59
  have e9 : (⟨s.toArray⟩ : ByteArray).extract 0 a9.length = ⟨a9.toArray⟩ := by rw [hs9]; exact ext_fst _ _ _
  have hk9 : a9.length ≤ s.length := by rw [hs9]; simp
  have hk9I : (a9.length : Int) ≤ (s.length : Int) := by omega
  clear hs9
  have hl9 : a9.length ≤ 16384 := by omega
  have HTm := hide (fun W => trimmed_any W a9 hl9)
  have htl : (trimT a9).length ≤ 16384 := by have := trimT_len a9; omega
  have HG := hide (fun W => find_any W (trimT a9) 58 htl)
  rw [fnd_some h58] at HG
  generalize lineD s = L at *
  generalize trimT a9 = t at *
  have hs8 := cut_split h58
  have e8 : (⟨t.toArray⟩ : ByteArray).extract 0 a.length = ⟨a.toArray⟩ := by rw [hs8]; exact ext_fst _ _ _
  have hk8 : a.length < t.length := by rw [hs8]; simp
  have hk8I : (a.length : Int) ≤ (t.length : Int) := by omega
  have hbl : b.length ≤ 16384 := by have : t.length = a.length + (b.length + 1) := by rw [hs8]; simp
                                    omega
  have HL := hide (fun W => isLabelD_any W a (by omega))
  rw [hA] at HL
  have f8 : (⟨t.toArray⟩ : ByteArray).extract (a.length + 1) t.length = ⟨b.toArray⟩ := by have := ext_snd a 58 b _ rfl; rw [← hs8] at this; exact this
  have hk7I : ((a.length + 1 : Nat) : Int) ≤ (t.length : Int) := by omega
  have HT2 := hide (fun W => trimmed_any W b hbl)
  have hul : (trimT b).length ≤ 16384 := by have := trimT_len b; omega
  clear hs8 hA
  have HB : Hid (Below w.heap.size w ((w.alloc (.cells (dlL dl0 none 0).toArray 42)).alloc (.cells (dlL dl0 none 0).toArray 42))) := hide ((bel1 w _).alloc (by simp) _)
  have HR : Hid (DlA ((w.alloc (.cells (dlL dl0 none 0).toArray 42)).alloc (.cells (dlL dl0 none 0).toArray 42)) w.heap.size dl0 none 0) := hide (DlA.keep (w := w.alloc (.cells (dlL dl0 none 0).toArray 42)) (heap_alloc_last _ _) (bel1 _ _))
  have HD : Hid (DlA ((w.alloc (.cells (dlL dl0 none 0).toArray 42)).alloc (.cells (dlL dl0 none 0).toArray 42)) (w.heap.size + 1) dl0 none 0) := hide (by have := heap_alloc_last (w.alloc (.cells (dlL dl0 none 0).toArray 42)) (.cells (dlL dl0 none 0).toArray 42); rw [World.size_alloc] at this; exact this)
  have HNm := hide hNm
  clear h59 h58 hl hNm
  go_enter Tryd.func12, Tryd.ntmps12
  go_wp2_with fail
  refine (HF.out _).mono ?_
  rintro e w1 ⟨rfl, rfl⟩
  go_wp2_with fail
  refine (HTm.out _).mono ?_
  rintro e w1 ⟨rfl, rfl⟩
  go_wp2_with fail
  refine (HG.out _).mono ?_
  rintro e w1 ⟨rfl, rfl⟩
  simp only [dlL, dl0] at HB HR HD
  generalize (w.alloc (.cells #[.string ⟨#[]⟩, .bool false, .string ⟨#[]⟩, .slice none 0 0, .int .i64 0, .bool false] 42)).alloc (.cells #[.string ⟨#[]⟩, .bool false, .string ⟨#[]⟩, .slice none 0 0, .int .i64 0, .bool false] 42) = W at *
  go_wp2_with fail
  refine (HL.out _).mono ?_
  rintro e w1 ⟨rfl, rfl⟩
  have frg := fun j => HD.out.frz j
  obtain ⟨q0, q1, q2, q3, q4, q5⟩ := HD.out.cells
  simp only at q0 q1 q2 q3 q4 q5
  go_wp2_with fail
  refine (HT2.out _).mono ?_
  rintro e w1 ⟨rfl, rfl⟩
  have HDz := hide ((HD.out.label a).lab true)
  have HRz := hide ((HR.out.other (k := w.heap.size + 1) (j := 0) (.string ⟨a.toArray⟩) (by omega)).other (k := w.heap.size + 1) (j := 1) (.bool true) (by omega))
  have HBz := hide ((HB.out.setCell (p := ⟨w.heap.size + 1, 0, none⟩) (by simp) (.string ⟨a.toArray⟩)).setCell (p := ⟨w.heap.size + 1, 1, none⟩) (by simp) (.bool true))
  clear frg q0 q1 q2 q3 q4 q5 HD HR HB HF HTm HG HL HT2 e8 f8 hk8 hk8I hk7I hbl
  simp only at HDz
  have HD := HDz
  have HR := HRz
  have HB := HBz
  clear HDz HRz HBz
  generalize (w1.setCell ⟨w.heap.size + 1, 0, none⟩ (.string ⟨a.toArray⟩)).setCell ⟨w.heap.size + 1, 1, none⟩ (.bool true) = Wz at *
  obtain ⟨W, hW⟩ : ∃ W, W = Wz := ⟨_, rfl⟩
  subst hW
  generalize trimT b = u at *
  rcases u with _ | ⟨x0, u0⟩
  · have fr := fun j => HR.out.frz j
    obtain ⟨r0, r1, r2, r3, r4, r5⟩ := HR.out.cells
    obtain ⟨q0, q1, q2, q3, q4, q5⟩ := HD.out.cells
    have HS := hide (dl_sets HR.out (⟨a, true, [], [], 0, false⟩ : Dl) none 0)
    go_wp2
    refine bodyPost_ret (results_cell_row rfl _ _ w.heap.size 42 (dlL (⟨a, true, [], [], 0, false⟩ : Dl) none 0).toArray (0, 0) _ rfl HS.out Tryd.underlying42 rfl info_dl) rfl ?_
    exact ⟨none, 0, by rw [HV.out] <;> rfl, by rw [HV.out]; exact own_six (World.ownsRow_nil _ _ _ _) HR.out, six HB.out (Nat.le_refl _)⟩
  · have hne : x0 :: u0 ≠ [] := by simp
    go_upto_region 16 with fail
    generalize x0 :: u0 = u at *
    go_loopw [5] (fun v wr => ∃ i : Nat, v = .int .i64 (i : Int) ∧ i ≤ u.length ∧ Hid (∀ j (hj : j < u.length), j < i → ([32, 9] : Tx).contains u[j] = false) ∧ wr = W) (fun v _ => u.length - (intOf v).toNat)
    case atStart => exact ⟨0, rfl, by omega, hide (fun j _ h => by omega), rfl⟩
    case round =>
    obtain ⟨i, rfl, hi, HNo, hWr⟩ := hrel
    subst hWr
    go_upto_region 16 with fail
    go_cut [59] from 44 to 61 (fun v wx => v = .bool (cnB u i) ∧ wx = wr)
    case first =>
      by_cases hlt : i < u.length
      · have hltI : (i : Int) < (u.length : Int) := by omega
        obtain ⟨d, hd⟩ : ∃ d, u[i] = d := ⟨_, rfl⟩
        have hg : (⟨u.toArray⟩ : ByteArray)[i]'hlt = d := hd
        have HC := hide (cn_at hlt hd)
        rw [bl_or] at HC
        clear HNo
        by_cases h32 : (d.toNat : Int) = 32
        · have hb : ((d.toNat : Int) == 32) = true := by rw [beq_iff_eq]; exact h32
          have hbn : ((d.toNat : Int) != 32) = false := by unfold bne; rw [hb]; rfl
          rw [hb] at HC
          clear h32
          go_wp2_with fail
          go_meet
          case rel => exact ⟨by rw [HC.out] <;> rfl, rfl⟩
        · have hb : ((d.toNat : Int) == 32) = false := by rw [beq_eq_false_iff_ne]; exact h32
          have hbn : ((d.toNat : Int) != 32) = true := by unfold bne; rw [hb]; rfl
          by_cases h9 : (d.toNat : Int) = 9
          · have hb9 : ((d.toNat : Int) == 9) = true := by rw [beq_iff_eq]; exact h9
            have hb9n : ((d.toNat : Int) != 9) = false := by unfold bne; rw [hb9]; rfl
            rw [hb, hb9] at HC
            clear h32 h9
            go_wp2_with fail
            go_meet
            case rel => exact ⟨by rw [HC.out] <;> rfl, rfl⟩
          · have hb9 : ((d.toNat : Int) == 9) = false := by rw [beq_eq_false_iff_ne]; exact h9
            have hb9n : ((d.toNat : Int) != 9) = true := by unfold bne; rw [hb9]; rfl
            rw [hb, hb9] at HC
            clear h32 h9
            go_wp2_with fail
            go_meet
            case rel => exact ⟨by rw [HC.out] <;> rfl, rfl⟩
      · have hltI : ¬ (i : Int) < (u.length : Int) := by omega
        have HC := hide (cn_end hlt)
        clear HNo
        go_wp2_with fail
        go_meet
        case rel => exact ⟨by rw [HC.out] <;> rfl, rfl⟩
    case rest =>
    obtain ⟨hv, hw⟩ := hcut
    subst hv
    subst hw
    cases hcn : cnB u i with
    | true =>
      have hlt : i < u.length := by by_cases h : i < u.length; exact h; rw [cn_end h] at hcn; cases hcn
      have HN2 : Hid (∀ j (hj : j < u.length), j < i + 1 → ([32, 9] : Tx).contains u[j] = false) := hide (fun j hj h => by
        by_cases e : j = i
        · subst e; have := cn_at hj rfl; rw [hcn] at this; simpa using this.symm
        · exact HNo.out j hj (by omega))
      clear HNo
      go_wp2
      refine ⟨⟨i + 1, by simp, by omega, HN2, trivial⟩, ?_⟩
      simp [intOf]
      omega
    | false =>
      have HSt := hide (fun F hF => stD_eq (F := F) hne hi HNo.out hcn hF)
      clear HNo hcn hne
      have e3 : (⟨u.toArray⟩ : ByteArray).extract 0 i = ⟨(u.take i).toArray⟩ := by rw [ext_mk]; simp
      have e4 : (⟨u.toArray⟩ : ByteArray).extract i u.length = ⟨(u.drop i).toArray⟩ := by rw [ext_mk]; simp
      have hiI : (i : Int) ≤ (u.length : Int) := by omega
      have hdl : (u.drop i).length ≤ 16384 := by simp; omega
      have HTr := hide (fun W => trimmed_any W (u.drop i) hdl)
      have hRl : (trimT (u.drop i)).length ≤ 16384 := by have := trimT_len (u.drop i); omega
      obtain ⟨R, hR⟩ : ∃ R, trimT (u.drop i) = R := ⟨_, rfl⟩
      rw [hR] at HSt HTr hRl
      clear hR
      generalize u.drop i = dr at *
      generalize u.take i = nme at *
      have frg := fun j => HD.out.frz j
      obtain ⟨q0, q1, q2, q3, q4, q5⟩ := HD.out.cells
      simp only at q0 q1 q2 q3 q4 q5
      go_wp2_with fail
      refine (HTr.out _).mono ?_
      rintro e w1 ⟨rfl, rfl⟩
      have HD2 := hide (HD.out.name nme)
      have HR2 := hide (HR.out.other (k := w.heap.size + 1) (j := 2) (.string ⟨nme.toArray⟩) (by omega))
      have HB2 := hide (HB.out.setCell (p := ⟨w.heap.size + 1, 2, none⟩) (by simp) (.string ⟨nme.toArray⟩))
      clear frg q0 q1 q2 q3 q4 q5 HTr HD HR HB
      generalize wc.setCell ⟨w.heap.size + 1, 2, none⟩ (.string ⟨nme.toArray⟩) = W2 at *
      rcases R with _ | ⟨y0, R0⟩
      · have HVL : Hid (L = ⟨a, true, nme, [], (frm nme []).1, !(frm nme []).2⟩) := hide (by rw [HV.out, HSt.out [] rfl])
        have HOx := hide (World.ownsRow_nil W2 w.heap.size 9 1)
        have hFf : ∀ f ∈ ([] : List Tx), f.length ≤ 16384 := by simp
        have hFl : ([] : List Tx).length ≤ 16385 := by simp
        have HBx := HB2
        have HRx := HR2
        have HDx := HD2
        clear HB2 HR2 HD2 HSt HV
        have HFm := hide (formed_any W2 nme none 0 [] hFf hFl (own_SR HOx.out) (HNm.out.below HBx.out))
        have frg := fun j => HDx.out.frz j
        obtain ⟨q0, q1, q2, q3, q4, q5⟩ := HDx.out.cells
        simp only at q0 q1 q2 q3 q4 q5
        obtain ⟨z, hz⟩ : ∃ z, (frm nme []).1 = z := ⟨_, rfl⟩
        obtain ⟨ok, hok⟩ : ∃ ok, (frm nme []).2 = ok := ⟨_, rfl⟩
        rw [hz, hok] at HVL
        rw [hz, hok] at HFm
        clear hz hok
        go_wp2_with fail
        refine HFm.out.mono ?_
        rintro e w1 ⟨rfl, rfl⟩
        go_upto_region 29 with fail
        have HD9 := hide ((HDx.out.words z).bad (!ok))
        have HR9 := hide ((HRx.out.other (k := w.heap.size + 1) (j := 4) (.int .i64 z) (by omega)).other (k := w.heap.size + 1) (j := 5) (.bool (!ok)) (by omega))
        have HO9 := hide (own_set (own_set HOx.out HDx.out (j := 4) (.int .i64 z)) (HDx.out.words z) (j := 5) (.bool (!ok)))
        have HB9 := hide ((HBx.out.setCell (p := ⟨w.heap.size + 1, 4, none⟩) (by simp) (.int .i64 z)).setCell (p := ⟨w.heap.size + 1, 5, none⟩) (by simp) (.bool (!ok)))
        clear frg q0 q1 q2 q3 q4 q5 HFm HDx HRx HOx HBx
        generalize (w1.setCell ⟨w.heap.size + 1, 4, none⟩ (.int .i64 z)).setCell ⟨w.heap.size + 1, 5, none⟩ (.bool (!ok)) = Y at *
        have fr := fun j => HR9.out.frz j
        obtain ⟨r0, r1, r2, r3, r4, r5⟩ := HR9.out.cells
        obtain ⟨q0, q1, q2, q3, q4, q5⟩ := HD9.out.cells
        have HS := hide (dl_sets HR9.out (⟨a, true, nme, [], z, !ok⟩ : Dl) none 0)
        simp only at q0 q1 q2 q3 q4 q5 HS
        go_wp2
        refine bodyPost_ret (results_cell_row rfl _ _ w.heap.size 42 (dlL (⟨a, true, nme, [], z, !ok⟩ : Dl) none 0).toArray (0, 0) _ rfl HS.out Tryd.underlying42 rfl info_dl) rfl ?_
        exact ⟨none, 0, by rw [HVL.out] <;> rfl, by rw [HVL.out]; exact own_six HO9.out HR9.out, six HB9.out (Nat.le_refl _)⟩
      · have hRn : y0 :: R0 ≠ [] := by simp
        have HVL0 : Hid (∀ F, F = (splitT 44 (y0 :: R0)).map trimT → L = ⟨a, true, nme, F, (frm nme F).1, !(frm nme F).2⟩) := hide (fun F hF => by rw [HV.out, HSt.out F (by rw [if_neg hRn]; exact hF)])
        have HPc := hide (fun W => pieces_any W (y0 :: R0) 44 hRl)
        have hcnt := split_count 44 (y0 :: R0)
        have HPl : Hid (∀ p ∈ splitT 44 (y0 :: R0), p.length ≤ 16384) := hide (fun p hp => by have := split_len 44 (y0 :: R0) p hp; omega)
        clear HSt HV hRn
        go_wp2_with fail
        refine (HPc.out _).mono ?_
        rintro e w3 ⟨v, rfl, ho3, hb3⟩
        obtain ⟨ap, cp, rfl⟩ := own_shape ho3
        have HSp := hide (own_SR ho3)
        have HNg : Hid (∀ x, ap = some x → x.block ≠ w.heap.size + 1) := hide (fun x hx => by subst hx; have := (ho3.lt x.block rfl).1; have := HD2.out.lt; omega)
        have HD3 := hide (HD2.out.keep hb3)
        have HR3 := hide (HR2.out.keep hb3)
        have HB3 := hide (HB2.out.trans (hb3.mono HB2.out.size))
        have hs3 := hb3.size
        have hg3 := HD2.out.lt
        clear ho3 hb3 HD2 HR2 HB2 HPc
        generalize hps : splitT 44 (y0 :: R0) = ps at *
        clear hps
        have hcn2 : ps.length ≤ 16385 := by simp only [List.length_cons] at hcnt hRl; omega
        clear hcnt
        obtain ⟨i9, hi9, hz9, hsz9, hb9⟩ := info_str
        go_upto_region 23 with fail
        go_loopw [8] (fun v wr => ∃ (j : Nat) (fo : Option Addr) (c : Nat), v = .int .i64 (j : Int) ∧ j ≤ ps.length ∧ Hid (wr.ownsRow w3.heap.size 9 1 (.slice fo j c) j (strs ((ps.take j).map trimT))) ∧ Hid (DlA wr (w.heap.size + 1) (⟨a, true, nme, (ps.take j).map trimT, 0, false⟩ : Dl) fo c) ∧ Hid (Kp (w.heap.size + 1) w3 wr)) (fun v _ => ps.length - (intOf v).toNat)
        case atStart => exact ⟨0, none, 0, rfl, by omega, hide (World.ownsRow_nil _ _ _ _), HD3, hide (Kp.refl _ _)⟩
        case round =>
        obtain ⟨j, fo, c, rfl, hj, HOw, HDw, HKw⟩ := hrel
        by_cases hlt : j < ps.length
        · have hltI : (j : Int) < (ps.length : Int) := by omega
          obtain ⟨x, hx, cx⟩ := HSp.out j hlt
          subst hx
          have hxb := HNg.out x rfl
          have hjl : ((ps.take j).map trimT).length = j := by simp; omega
          have HE : Hid ((ps.take (j + 1)).map trimT = (ps.take j).map trimT ++ [trimT ps[j]]) := hide (by rw [List.take_succ_eq_append_getElem hlt, List.map_append]; rfl)
          have HTr := hide (fun W => (trimmed_sym W ps[j] (HPl.out _ (List.getElem_mem hlt))))
          generalize ps[j] = p at *
          go_upto_region 25 with fail
          have hcx := HKw.out.cl cx (by rw [add_blk]; exact hxb)
          obtain ⟨wd, hwd⟩ : ∃ wd, wd = wr.drew := ⟨_, rfl⟩
          have HOd : Hid (wd.ownsRow w3.heap.size 9 1 (.slice fo j c) j (strs ((ps.take j).map trimT))) := by rw [hwd]; exact hide HOw.out
          have HDd : Hid (DlA wd (w.heap.size + 1) (⟨a, true, nme, (ps.take j).map trimT, 0, false⟩ : Dl) fo c) := by rw [hwd]; exact hide HDw.out
          have HKd : Hid (Kp (w.heap.size + 1) w3 wd) := by rw [hwd]; exact hide HKw.out.drew
          have HSd : Hid (wd.cell? (x.add j) = some (.string ⟨p.toArray⟩)) := by rw [hwd]; exact hide hcx
          refine wp_region_held_drew (S := fun W => W.cell? (x.add j) = some (.string ⟨p.toArray⟩)) (by kernel_rfl) (by rw [← hwd]; exact HSd.out) (fun hHeld => ?_)
          rw [← hwd]
          have cxK := hide cx
          clear hwd hHeld hcx cx HOw HDw HKw
          obtain ⟨-, -, -, q3, -, -⟩ := HDd.out.cells
          simp only [hjl] at q3
          refine hd_take 0 (o := ⟨some 80, _, _, _, _, _⟩) (.pointer (some ⟨w.heap.size + 1, 3, none⟩)) (by kernel_rfl) (by kernel_rfl) (by kernel_rfl) rfl (by rfl) (fun W hSw => by go_simp) (fun _ _ _ h => h) HSd.out ?_
          simp only [Act.put, List.setIfInBounds_toArray, List.set_cons_zero, List.set_cons_succ]
          refine hd_take 2 (o := ⟨some 82, _, _, _, _, _⟩) (.slice (some x) ps.length cp) (by kernel_rfl) (by kernel_rfl) (by kernel_rfl) rfl (by rfl) (fun W hSw => by go_simp) (fun _ _ _ h => h) HSd.out ?_
          simp only [Act.put, List.setIfInBounds_toArray, List.set_cons_zero, List.set_cons_succ]
          refine hd_take 3 (o := ⟨some 83, _, _, _, _, _⟩) (.int .i64 (j : Int)) (by kernel_rfl) (by kernel_rfl) (by kernel_rfl) rfl (by rfl) (fun W hSw => by go_simp) (fun _ _ _ h => h) HSd.out ?_
          simp only [Act.put, List.setIfInBounds_toArray, List.set_cons_zero, List.set_cons_succ]
          refine hd_take 4 (o := ⟨some 84, _, _, _, _, _⟩) (.pointer (some (x.add j))) (by kernel_rfl) (by kernel_rfl) (by kernel_rfl) rfl (by rfl) (fun W hSw => by go_simp) (fun _ _ _ h => h) HSd.out ?_
          simp only [Act.put, List.setIfInBounds_toArray, List.set_cons_zero, List.set_cons_succ]
          refine hd_take 5 (o := ⟨some 85, _, _, _, _, _⟩) (.string ⟨p.toArray⟩) (by kernel_rfl) (by kernel_rfl) (by kernel_rfl) rfl (by rfl) (fun W hSw => by go_simp) (fun _ _ _ h => h) HSd.out ?_
          simp only [Act.put, List.setIfInBounds_toArray, List.set_cons_zero, List.set_cons_succ]
          refine hd_both 1 6 (o1 := ⟨some 81, _, _, _, _, _⟩) (o2 := ⟨some 86, _, _, _, _, _⟩) (by kernel_rfl) rfl rfl (by rfl) (by rfl) (fun K' hK => ?_) (fun K' hK => ?_)
          · skip
            go_simp
            refine hK _ _ HSd.out ?_
            clear hK K'
            try simp only [Act.put, List.setIfInBounds_toArray, List.set_cons_zero, List.set_cons_succ]
            refine hd_call 6 (o := ⟨some 86, _, _, _, _, _⟩) (by kernel_rfl) rfl (by rfl) (fun K' hK => ?_)
            go_simp
            go_wp2_with (go_at_call 19; refine (HTr.out _).mono ?_; rintro e1 w9 ⟨rfl, hw9⟩; subst hw9)
            refine hK _ _ HSd.out ?_
            clear hK K'
            try simp only [Act.put, List.setIfInBounds_toArray, List.set_cons_zero, List.set_cons_succ]
            refine hd_call 7 (o := ⟨some 87, _, _, _, _, _⟩) (by kernel_rfl) rfl (by rfl) (fun K' hK => ?_)
            have HSe : Hid ((wd.alloc (.cells #[.string ⟨(trimT p).toArray⟩] 9)).cell? (x.add j) = some (.string ⟨p.toArray⟩)) := hide (by rw [World.cell?_alloc_lt _ _ _ (cell_blk HSd.out)]; exact HSd.out)
            have q3e : (wd.alloc (.cells #[.string ⟨(trimT p).toArray⟩] 9)).cell? ⟨w.heap.size + 1, 3, none⟩ = some (.slice fo j c) := by rw [World.cell?_alloc_lt _ _ _ (cell_blk q3)]; exact q3
            go_simp
            refine hK _ _ HSe.out ?_
            clear hK K'
            try simp only [Act.put, List.setIfInBounds_toArray, List.set_cons_zero, List.set_cons_succ]
            refine hd_call 8 (o := ⟨some 88, _, _, _, _, _⟩) (by kernel_rfl) rfl (by rfl) (fun K' hK => ?_)
            refine wp_append_own _ _ _ 38 rfl w3.heap.size 9 i9 (.string ⟨#[]⟩) 1 16 Tryd.underlying38 hi9 hz9 hsz9 hb9 rfl (by decide) (.slice fo j c) j _ rfl (HOd.out.alloc _) ⟨_, 0, none⟩ 1 1 [.string ⟨(trimT p).toArray⟩] rfl rfl (cell_one_new _ _ _) (by simp [Value.oneCell']) (by unfold maxLen; omega) (by omega) (by have := HKd.out.size; simp; omega) ?_
            intro v4 w4 ho4 hg4 _
            obtain ⟨a4, c4, rfl⟩ := own_shape ho4
            have hDa : DlA (wd.alloc (.cells #[.string ⟨(trimT p).toArray⟩] 9)) (w.heap.size + 1) (⟨a, true, nme, (ps.take j).map trimT, 0, false⟩ : Dl) fo c := HDd.out.keep (bel1 _ _)
            have HD4 := hide (hDa.grown (HOd.out.alloc _) hg4)
            have HK4 := hide ((HKd.out.alloc (.cells #[.string ⟨(trimT p).toArray⟩] 9)).grown hg4 (fun k hk => (HOd.out.lt k hk).1))
            have HO4 := hide ho4
            have HS4 := hide (HK4.out.cl cxK.out (by rw [add_blk]; exact hxb))
            clear ho4 hg4 hDa
            refine hK _ _ HS4.out ?_
            clear hK K'
            try simp only [Act.put, List.setIfInBounds_toArray, List.set_cons_zero, List.set_cons_succ]
            refine hd_take 9 (o := ⟨some 89, _, _, _, _, _⟩) (.pointer (some ⟨w.heap.size + 1, 3, none⟩)) (by kernel_rfl) (by kernel_rfl) (by kernel_rfl) rfl (by rfl) (fun W hSw => by go_simp) (fun _ _ _ h => h) HS4.out ?_
            simp only [Act.put, List.setIfInBounds_toArray, List.set_cons_zero, List.set_cons_succ]
            have HD5 := hide (HD4.out.fields ((ps.take j).map trimT ++ [trimT p]) a4 c4 (j + 1) (by simp; omega))
            have HK5 := hide (HK4.out.set (j := 3) (.slice a4 (j + 1) c4))
            have HO5 := hide (own_set HO4.out HD4.out (j := 3) (.slice a4 (j + 1) c4))
            have HS5 := hide (HK5.out.cl cxK.out (by rw [add_blk]; exact hxb))
            obtain ⟨-, -, -, q34, -, -⟩ := HD4.out.cells
            have fr4 := HD4.out.frz 3
            refine hd_call 10 (o := ⟨none, _, _, _, _, _⟩) (by kernel_rfl) rfl (by rfl) (fun K' hK => ?_)
            go_simp
            refine hK _ _ HS5.out ?_
            clear hK K'
            try simp only [Act.put, List.setIfInBounds_toArray, List.set_cons_zero, List.set_cons_succ]
            refine wpAnyH_done (by kernel_rfl) ?_ _
            clear q34 fr4 HD4 HK4 HO4 HS4
            go_wp2
            refine ⟨⟨j + 1, a4, c4, by simp, by omega, hide (by rw [HE.out]; simpa [strs] using HO5.out), hide (by rw [HE.out]; exact HD5.out), HK5⟩, ?_⟩
            simp [intOf]
            omega
          · skip
            go_simp
            go_wp2_with (go_at_call 19; refine (HTr.out _).mono ?_; rintro e1 w9 ⟨rfl, hw9⟩; subst hw9)
            refine hK _ _ HSd.out ?_
            clear hK K'
            try simp only [Act.put, List.setIfInBounds_toArray, List.set_cons_zero, List.set_cons_succ]
            refine hd_both 1 7 (o1 := ⟨some 81, _, _, _, _, _⟩) (o2 := ⟨some 87, _, _, _, _, _⟩) (by kernel_rfl) rfl rfl (by rfl) (by rfl) (fun K' hK => ?_) (fun K' hK => ?_)
            · skip
              go_simp
              refine hK _ _ HSd.out ?_
              clear hK K'
              try simp only [Act.put, List.setIfInBounds_toArray, List.set_cons_zero, List.set_cons_succ]
              refine hd_call 7 (o := ⟨some 87, _, _, _, _, _⟩) (by kernel_rfl) rfl (by rfl) (fun K' hK => ?_)
              have HSe : Hid ((wd.alloc (.cells #[.string ⟨(trimT p).toArray⟩] 9)).cell? (x.add j) = some (.string ⟨p.toArray⟩)) := hide (by rw [World.cell?_alloc_lt _ _ _ (cell_blk HSd.out)]; exact HSd.out)
              have q3e : (wd.alloc (.cells #[.string ⟨(trimT p).toArray⟩] 9)).cell? ⟨w.heap.size + 1, 3, none⟩ = some (.slice fo j c) := by rw [World.cell?_alloc_lt _ _ _ (cell_blk q3)]; exact q3
              go_simp
              refine hK _ _ HSe.out ?_
              clear hK K'
              try simp only [Act.put, List.setIfInBounds_toArray, List.set_cons_zero, List.set_cons_succ]
              refine hd_call 8 (o := ⟨some 88, _, _, _, _, _⟩) (by kernel_rfl) rfl (by rfl) (fun K' hK => ?_)
              refine wp_append_own _ _ _ 38 rfl w3.heap.size 9 i9 (.string ⟨#[]⟩) 1 16 Tryd.underlying38 hi9 hz9 hsz9 hb9 rfl (by decide) (.slice fo j c) j _ rfl (HOd.out.alloc _) ⟨_, 0, none⟩ 1 1 [.string ⟨(trimT p).toArray⟩] rfl rfl (cell_one_new _ _ _) (by simp [Value.oneCell']) (by unfold maxLen; omega) (by omega) (by have := HKd.out.size; simp; omega) ?_
              intro v4 w4 ho4 hg4 _
              obtain ⟨a4, c4, rfl⟩ := own_shape ho4
              have hDa : DlA (wd.alloc (.cells #[.string ⟨(trimT p).toArray⟩] 9)) (w.heap.size + 1) (⟨a, true, nme, (ps.take j).map trimT, 0, false⟩ : Dl) fo c := HDd.out.keep (bel1 _ _)
              have HD4 := hide (hDa.grown (HOd.out.alloc _) hg4)
              have HK4 := hide ((HKd.out.alloc (.cells #[.string ⟨(trimT p).toArray⟩] 9)).grown hg4 (fun k hk => (HOd.out.lt k hk).1))
              have HO4 := hide ho4
              have HS4 := hide (HK4.out.cl cxK.out (by rw [add_blk]; exact hxb))
              clear ho4 hg4 hDa
              refine hK _ _ HS4.out ?_
              clear hK K'
              try simp only [Act.put, List.setIfInBounds_toArray, List.set_cons_zero, List.set_cons_succ]
              refine hd_take 9 (o := ⟨some 89, _, _, _, _, _⟩) (.pointer (some ⟨w.heap.size + 1, 3, none⟩)) (by kernel_rfl) (by kernel_rfl) (by kernel_rfl) rfl (by rfl) (fun W hSw => by go_simp) (fun _ _ _ h => h) HS4.out ?_
              simp only [Act.put, List.setIfInBounds_toArray, List.set_cons_zero, List.set_cons_succ]
              have HD5 := hide (HD4.out.fields ((ps.take j).map trimT ++ [trimT p]) a4 c4 (j + 1) (by simp; omega))
              have HK5 := hide (HK4.out.set (j := 3) (.slice a4 (j + 1) c4))
              have HO5 := hide (own_set HO4.out HD4.out (j := 3) (.slice a4 (j + 1) c4))
              have HS5 := hide (HK5.out.cl cxK.out (by rw [add_blk]; exact hxb))
              obtain ⟨-, -, -, q34, -, -⟩ := HD4.out.cells
              have fr4 := HD4.out.frz 3
              refine hd_call 10 (o := ⟨none, _, _, _, _, _⟩) (by kernel_rfl) rfl (by rfl) (fun K' hK => ?_)
              go_simp
              refine hK _ _ HS5.out ?_
              clear hK K'
              try simp only [Act.put, List.setIfInBounds_toArray, List.set_cons_zero, List.set_cons_succ]
              refine wpAnyH_done (by kernel_rfl) ?_ _
              clear q34 fr4 HD4 HK4 HO4 HS4
              go_wp2
              refine ⟨⟨j + 1, a4, c4, by simp, by omega, hide (by rw [HE.out]; simpa [strs] using HO5.out), hide (by rw [HE.out]; exact HD5.out), HK5⟩, ?_⟩
              simp [intOf]
              omega
            · skip
              have HSe : Hid ((wd.alloc (.cells #[.string ⟨(trimT p).toArray⟩] 9)).cell? (x.add j) = some (.string ⟨p.toArray⟩)) := hide (by rw [World.cell?_alloc_lt _ _ _ (cell_blk HSd.out)]; exact HSd.out)
              have q3e : (wd.alloc (.cells #[.string ⟨(trimT p).toArray⟩] 9)).cell? ⟨w.heap.size + 1, 3, none⟩ = some (.slice fo j c) := by rw [World.cell?_alloc_lt _ _ _ (cell_blk q3)]; exact q3
              go_simp
              refine hK _ _ HSe.out ?_
              clear hK K'
              try simp only [Act.put, List.setIfInBounds_toArray, List.set_cons_zero, List.set_cons_succ]
              refine hd_call 1 (o := ⟨some 81, _, _, _, _, _⟩) (by kernel_rfl) rfl (by rfl) (fun K' hK => ?_)
              go_simp
              refine hK _ _ HSe.out ?_
              clear hK K'
              try simp only [Act.put, List.setIfInBounds_toArray, List.set_cons_zero, List.set_cons_succ]
              refine hd_call 8 (o := ⟨some 88, _, _, _, _, _⟩) (by kernel_rfl) rfl (by rfl) (fun K' hK => ?_)
              refine wp_append_own _ _ _ 38 rfl w3.heap.size 9 i9 (.string ⟨#[]⟩) 1 16 Tryd.underlying38 hi9 hz9 hsz9 hb9 rfl (by decide) (.slice fo j c) j _ rfl (HOd.out.alloc _) ⟨_, 0, none⟩ 1 1 [.string ⟨(trimT p).toArray⟩] rfl rfl (cell_one_new _ _ _) (by simp [Value.oneCell']) (by unfold maxLen; omega) (by omega) (by have := HKd.out.size; simp; omega) ?_
              intro v4 w4 ho4 hg4 _
              obtain ⟨a4, c4, rfl⟩ := own_shape ho4
              have hDa : DlA (wd.alloc (.cells #[.string ⟨(trimT p).toArray⟩] 9)) (w.heap.size + 1) (⟨a, true, nme, (ps.take j).map trimT, 0, false⟩ : Dl) fo c := HDd.out.keep (bel1 _ _)
              have HD4 := hide (hDa.grown (HOd.out.alloc _) hg4)
              have HK4 := hide ((HKd.out.alloc (.cells #[.string ⟨(trimT p).toArray⟩] 9)).grown hg4 (fun k hk => (HOd.out.lt k hk).1))
              have HO4 := hide ho4
              have HS4 := hide (HK4.out.cl cxK.out (by rw [add_blk]; exact hxb))
              clear ho4 hg4 hDa
              refine hK _ _ HS4.out ?_
              clear hK K'
              try simp only [Act.put, List.setIfInBounds_toArray, List.set_cons_zero, List.set_cons_succ]
              refine hd_take 9 (o := ⟨some 89, _, _, _, _, _⟩) (.pointer (some ⟨w.heap.size + 1, 3, none⟩)) (by kernel_rfl) (by kernel_rfl) (by kernel_rfl) rfl (by rfl) (fun W hSw => by go_simp) (fun _ _ _ h => h) HS4.out ?_
              simp only [Act.put, List.setIfInBounds_toArray, List.set_cons_zero, List.set_cons_succ]
              have HD5 := hide (HD4.out.fields ((ps.take j).map trimT ++ [trimT p]) a4 c4 (j + 1) (by simp; omega))
              have HK5 := hide (HK4.out.set (j := 3) (.slice a4 (j + 1) c4))
              have HO5 := hide (own_set HO4.out HD4.out (j := 3) (.slice a4 (j + 1) c4))
              have HS5 := hide (HK5.out.cl cxK.out (by rw [add_blk]; exact hxb))
              obtain ⟨-, -, -, q34, -, -⟩ := HD4.out.cells
              have fr4 := HD4.out.frz 3
              refine hd_call 10 (o := ⟨none, _, _, _, _, _⟩) (by kernel_rfl) rfl (by rfl) (fun K' hK => ?_)
              go_simp
              refine hK _ _ HS5.out ?_
              clear hK K'
              try simp only [Act.put, List.setIfInBounds_toArray, List.set_cons_zero, List.set_cons_succ]
              refine wpAnyH_done (by kernel_rfl) ?_ _
              clear q34 fr4 HD4 HK4 HO4 HS4
              go_wp2
              refine ⟨⟨j + 1, a4, c4, by simp, by omega, hide (by rw [HE.out]; simpa [strs] using HO5.out), hide (by rw [HE.out]; exact HD5.out), HK5⟩, ?_⟩
              simp [intOf]
              omega
        · have ej : j = ps.length := by omega
          have hltI : ¬ (j : Int) < (ps.length : Int) := by omega
          subst ej
          rw [List.take_length] at HOw HDw
          obtain ⟨F, hF⟩ : ∃ F, F = ps.map trimT := ⟨_, rfl⟩
          have hFn : F.length = ps.length := by rw [hF]; simp
          have HVL := hide (HVL0.out F hF)
          have hFf : ∀ f ∈ F, f.length ≤ 16384 := by rw [hF]; intro f hf; obtain ⟨p, hp, rfl⟩ := List.mem_map.1 hf; have := HPl.out p hp; have := trimT_len p; omega
          have hFl : F.length ≤ 16385 := by omega
          rw [← hF] at HOw HDw
          rw [← hFn] at HOw hltI ⊢
          have HOx := hide (own_base HOw.out (show w.heap.size ≤ w3.heap.size by omega))
          have HBx := hide (Kp.below HB3.out HKw.out (by omega) (by omega))
          have HRx := hide (HKw.out.dl HR3.out (by omega))
          have HDx := HDw
          clear HVL0 HPl HSp HNg HD3 HR3 HB3 HKw HOw HDw hF hFn
          have HFm := hide (formed_any wr nme fo c F hFf hFl (own_SR HOx.out) (HNm.out.below HBx.out))
          have frg := fun j => HDx.out.frz j
          obtain ⟨q0, q1, q2, q3, q4, q5⟩ := HDx.out.cells
          simp only at q0 q1 q2 q3 q4 q5
          obtain ⟨z, hz⟩ : ∃ z, (frm nme F).1 = z := ⟨_, rfl⟩
          obtain ⟨ok, hok⟩ : ∃ ok, (frm nme F).2 = ok := ⟨_, rfl⟩
          rw [hz, hok] at HVL
          rw [hz, hok] at HFm
          clear hz hok
          go_wp2_with fail
          refine HFm.out.mono ?_
          rintro e w1 ⟨rfl, rfl⟩
          go_upto_region 29 with fail
          have HD9 := hide ((HDx.out.words z).bad (!ok))
          have HR9 := hide ((HRx.out.other (k := w.heap.size + 1) (j := 4) (.int .i64 z) (by omega)).other (k := w.heap.size + 1) (j := 5) (.bool (!ok)) (by omega))
          have HO9 := hide (own_set (own_set HOx.out HDx.out (j := 4) (.int .i64 z)) (HDx.out.words z) (j := 5) (.bool (!ok)))
          have HB9 := hide ((HBx.out.setCell (p := ⟨w.heap.size + 1, 4, none⟩) (by simp) (.int .i64 z)).setCell (p := ⟨w.heap.size + 1, 5, none⟩) (by simp) (.bool (!ok)))
          clear frg q0 q1 q2 q3 q4 q5 HFm HDx HRx HOx HBx
          generalize (w1.setCell ⟨w.heap.size + 1, 4, none⟩ (.int .i64 z)).setCell ⟨w.heap.size + 1, 5, none⟩ (.bool (!ok)) = Y at *
          have fr := fun j => HR9.out.frz j
          obtain ⟨r0, r1, r2, r3, r4, r5⟩ := HR9.out.cells
          obtain ⟨q0, q1, q2, q3, q4, q5⟩ := HD9.out.cells
          have HS := hide (dl_sets HR9.out (⟨a, true, nme, F, z, !ok⟩ : Dl) fo c)
          simp only at q0 q1 q2 q3 q4 q5 HS
          go_wp2
          refine bodyPost_ret (results_cell_row rfl _ _ w.heap.size 42 (dlL (⟨a, true, nme, F, z, !ok⟩ : Dl) fo c).toArray (0, 0) _ rfl HS.out Tryd.underlying42 rfl info_dl) rfl ?_
          exact ⟨fo, c, by rw [HVL.out] <;> rfl, by rw [HVL.out]; exact own_six HO9.out HR9.out, six HB9.out (Nat.le_refl _)⟩
set_option maxRecDepth 100000 in
set_option maxHeartbeats 4000000 in
theorem parsed_nb (s : Tx) (a b : Tx) (hl : s.length ≤ 16384) (hNm : Nms w) (h59 : cutT [59] s = none) (h58 : cutT [58] (trimT s) = some (a, b)) (hA : isLbl a = false) : Calls Tryd.prog 12 #[.string ⟨s.toArray⟩] w fun e w' => ∃ fo c, e = .returned (.agg (dlL (lineD s) fo c).toArray) ∧ w'.ownsRow w.heap.size 9 1 (.slice fo (lineD s).fields.length c) (lineD s).fields.length (strs (lineD s).fields) ∧ Below w.heap.size w w' := by
  have HV : Hid (lineD s = { dl0 with bad := true }) := hide (by unfold lineD; rw [h59]; simp only [Option.getD_none]; rw [h58]; simp only; rw [hA]; rfl)
  have HF := hide (fun W => find_any W s 59 hl)
  rw [fnd_none h59] at HF
  have HTm := hide (fun W => trimmed_any W s hl)
  have htl : (trimT s).length ≤ 16384 := by have := trimT_len s; omega
  have HG := hide (fun W => find_any W (trimT s) 58 htl)
  rw [fnd_some h58] at HG
  generalize lineD s = L at *
  generalize trimT s = t at *
  have hs8 := cut_split h58
  have e8 : (⟨t.toArray⟩ : ByteArray).extract 0 a.length = ⟨a.toArray⟩ := by rw [hs8]; exact ext_fst _ _ _
  have hk8 : a.length < t.length := by rw [hs8]; simp
  have hk8I : (a.length : Int) ≤ (t.length : Int) := by omega
  have hbl : b.length ≤ 16384 := by have : t.length = a.length + (b.length + 1) := by rw [hs8]; simp
                                    omega
  have HL := hide (fun W => isLabelD_any W a (by omega))
  rw [hA] at HL
  clear hs8 hA
  have HB : Hid (Below w.heap.size w ((w.alloc (.cells (dlL dl0 none 0).toArray 42)).alloc (.cells (dlL dl0 none 0).toArray 42))) := hide ((bel1 w _).alloc (by simp) _)
  have HR : Hid (DlA ((w.alloc (.cells (dlL dl0 none 0).toArray 42)).alloc (.cells (dlL dl0 none 0).toArray 42)) w.heap.size dl0 none 0) := hide (DlA.keep (w := w.alloc (.cells (dlL dl0 none 0).toArray 42)) (heap_alloc_last _ _) (bel1 _ _))
  have HD : Hid (DlA ((w.alloc (.cells (dlL dl0 none 0).toArray 42)).alloc (.cells (dlL dl0 none 0).toArray 42)) (w.heap.size + 1) dl0 none 0) := hide (by have := heap_alloc_last (w.alloc (.cells (dlL dl0 none 0).toArray 42)) (.cells (dlL dl0 none 0).toArray 42); rw [World.size_alloc] at this; exact this)
  have HNm := hide hNm
  clear h59 h58 hl hNm
  go_enter Tryd.func12, Tryd.ntmps12
  go_wp2_with fail
  refine (HF.out _).mono ?_
  rintro e w1 ⟨rfl, rfl⟩
  go_wp2_with fail
  refine (HTm.out _).mono ?_
  rintro e w1 ⟨rfl, rfl⟩
  go_wp2_with fail
  refine (HG.out _).mono ?_
  rintro e w1 ⟨rfl, rfl⟩
  simp only [dlL, dl0] at HB HR HD
  generalize (w.alloc (.cells #[.string ⟨#[]⟩, .bool false, .string ⟨#[]⟩, .slice none 0 0, .int .i64 0, .bool false] 42)).alloc (.cells #[.string ⟨#[]⟩, .bool false, .string ⟨#[]⟩, .slice none 0 0, .int .i64 0, .bool false] 42) = W at *
  go_wp2_with fail
  refine (HL.out _).mono ?_
  rintro e w1 ⟨rfl, rfl⟩
  have fr := fun j => HR.out.frz j
  obtain ⟨r0, r1, r2, r3, r4, r5⟩ := HR.out.cells
  have HS := hide (dl_sets HR.out ({ dl0 with bad := true } : Dl) none 0)
  go_wp2
  refine bodyPost_ret (results_cell_row rfl _ _ w.heap.size 42 (dlL ({ dl0 with bad := true } : Dl) none 0).toArray (0, 0) _ rfl HS.out Tryd.underlying42 rfl info_dl) rfl ?_
  exact ⟨none, 0, by rw [HV.out] <;> rfl, by rw [HV.out]; exact own_six (World.ownsRow_nil _ _ _ _) HR.out, six HB.out (Nat.le_refl _)⟩
set_option maxRecDepth 100000 in
set_option maxHeartbeats 4000000 in
theorem parsed_sb (s : Tx) (a b : Tx) (a9 b9 : Tx) (hl : s.length ≤ 16384) (hNm : Nms w) (h59 : cutT [59] s = some (a9, b9)) (h58 : cutT [58] (trimT a9) = some (a, b)) (hA : isLbl a = false) : Calls Tryd.prog 12 #[.string ⟨s.toArray⟩] w fun e w' => ∃ fo c, e = .returned (.agg (dlL (lineD s) fo c).toArray) ∧ w'.ownsRow w.heap.size 9 1 (.slice fo (lineD s).fields.length c) (lineD s).fields.length (strs (lineD s).fields) ∧ Below w.heap.size w w' := by
  have HV : Hid (lineD s = { dl0 with bad := true }) := hide (by unfold lineD; rw [h59]; simp only [Option.getD_some]; rw [h58]; simp only; rw [hA]; rfl)
  have HF := hide (fun W => find_any W s 59 hl)
  rw [fnd_some h59] at HF
  have hs9 := cut_split h59
  have e9 : (⟨s.toArray⟩ : ByteArray).extract 0 a9.length = ⟨a9.toArray⟩ := by rw [hs9]; exact ext_fst _ _ _
  have hk9 : a9.length ≤ s.length := by rw [hs9]; simp
  have hk9I : (a9.length : Int) ≤ (s.length : Int) := by omega
  clear hs9
  have hl9 : a9.length ≤ 16384 := by omega
  have HTm := hide (fun W => trimmed_any W a9 hl9)
  have htl : (trimT a9).length ≤ 16384 := by have := trimT_len a9; omega
  have HG := hide (fun W => find_any W (trimT a9) 58 htl)
  rw [fnd_some h58] at HG
  generalize lineD s = L at *
  generalize trimT a9 = t at *
  have hs8 := cut_split h58
  have e8 : (⟨t.toArray⟩ : ByteArray).extract 0 a.length = ⟨a.toArray⟩ := by rw [hs8]; exact ext_fst _ _ _
  have hk8 : a.length < t.length := by rw [hs8]; simp
  have hk8I : (a.length : Int) ≤ (t.length : Int) := by omega
  have hbl : b.length ≤ 16384 := by have : t.length = a.length + (b.length + 1) := by rw [hs8]; simp
                                    omega
  have HL := hide (fun W => isLabelD_any W a (by omega))
  rw [hA] at HL
  clear hs8 hA
  have HB : Hid (Below w.heap.size w ((w.alloc (.cells (dlL dl0 none 0).toArray 42)).alloc (.cells (dlL dl0 none 0).toArray 42))) := hide ((bel1 w _).alloc (by simp) _)
  have HR : Hid (DlA ((w.alloc (.cells (dlL dl0 none 0).toArray 42)).alloc (.cells (dlL dl0 none 0).toArray 42)) w.heap.size dl0 none 0) := hide (DlA.keep (w := w.alloc (.cells (dlL dl0 none 0).toArray 42)) (heap_alloc_last _ _) (bel1 _ _))
  have HD : Hid (DlA ((w.alloc (.cells (dlL dl0 none 0).toArray 42)).alloc (.cells (dlL dl0 none 0).toArray 42)) (w.heap.size + 1) dl0 none 0) := hide (by have := heap_alloc_last (w.alloc (.cells (dlL dl0 none 0).toArray 42)) (.cells (dlL dl0 none 0).toArray 42); rw [World.size_alloc] at this; exact this)
  have HNm := hide hNm
  clear h59 h58 hl hNm
  go_enter Tryd.func12, Tryd.ntmps12
  go_wp2_with fail
  refine (HF.out _).mono ?_
  rintro e w1 ⟨rfl, rfl⟩
  go_wp2_with fail
  refine (HTm.out _).mono ?_
  rintro e w1 ⟨rfl, rfl⟩
  go_wp2_with fail
  refine (HG.out _).mono ?_
  rintro e w1 ⟨rfl, rfl⟩
  simp only [dlL, dl0] at HB HR HD
  generalize (w.alloc (.cells #[.string ⟨#[]⟩, .bool false, .string ⟨#[]⟩, .slice none 0 0, .int .i64 0, .bool false] 42)).alloc (.cells #[.string ⟨#[]⟩, .bool false, .string ⟨#[]⟩, .slice none 0 0, .int .i64 0, .bool false] 42) = W at *
  go_wp2_with fail
  refine (HL.out _).mono ?_
  rintro e w1 ⟨rfl, rfl⟩
  have fr := fun j => HR.out.frz j
  obtain ⟨r0, r1, r2, r3, r4, r5⟩ := HR.out.cells
  have HS := hide (dl_sets HR.out ({ dl0 with bad := true } : Dl) none 0)
  go_wp2
  refine bodyPost_ret (results_cell_row rfl _ _ w.heap.size 42 (dlL ({ dl0 with bad := true } : Dl) none 0).toArray (0, 0) _ rfl HS.out Tryd.underlying42 rfl info_dl) rfl ?_
  exact ⟨none, 0, by rw [HV.out] <;> rfl, by rw [HV.out]; exact own_six (World.ownsRow_nil _ _ _ _) HR.out, six HB.out (Nat.le_refl _)⟩
end
end Go.Proofs.YtbfagiofhakjnaaDoor

namespace Go.Proofs.YtbfagiofhakjnaaDoor
open Go.RowKit
section
variable (w : World)
theorem parsed_any (s : Tx) (hl : s.length ≤ 16384) (hNm : Nms w) : Calls Tryd.prog 12 #[.string ⟨s.toArray⟩] w fun e w' => ∃ fo c, e = .returned (.agg (dlL (lineD s) fo c).toArray) ∧ w'.ownsRow w.heap.size 9 1 (.slice fo (lineD s).fields.length c) (lineD s).fields.length (strs (lineD s).fields) ∧ Below w.heap.size w w' := by
  cases h59 : cutT [59] s with
  | none =>
    cases h58 : cutT [58] (trimT s) with
    | none => exact parsed_nn w s hl hNm h59 h58
    | some p =>
      obtain ⟨a, b⟩ := p
      cases hA : isLbl a with
      | true => exact parsed_ng w s a b hl hNm h59 h58 hA
      | false => exact parsed_nb w s a b hl hNm h59 h58 hA
  | some p9 =>
    obtain ⟨a9, b9⟩ := p9
    cases h58 : cutT [58] (trimT a9) with
    | none => exact parsed_sn w s a9 b9 hl hNm h59 h58
    | some p =>
      obtain ⟨a, b⟩ := p
      cases hA : isLbl a with
      | true => exact parsed_sg w s a b a9 b9 hl hNm h59 h58 hA
      | false => exact parsed_sb w s a b a9 b9 hl hNm h59 h58 hA
end
end Go.Proofs.YtbfagiofhakjnaaDoor
