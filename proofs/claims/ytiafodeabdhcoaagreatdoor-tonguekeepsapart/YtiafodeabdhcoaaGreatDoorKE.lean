import Derived.Test.YtiafodeabdhcoaaGreatDoorKF

namespace Go.Proofs.YtiafodeabdhcoaaGreatDoor
open Go.RowKit
/-- the bounds of the rows' blocks -/
def LO (b0 b1 b2 b3 b4 b5 b6 : Nat) : Nat → Nat
  | 0 => b0
  | 1 => b1
  | 2 => b2
  | 3 => b3
  | 4 => b4
  | 5 => b5
  | _ => b6
set_option maxHeartbeats 16000000 in
set_option maxRecDepth 100000 in
theorem apart_walk (w : World) (s : Tx) (answers : List Nat) (an : Value) (hs : s.length ≤ 4000000000000000000) (hG : Lg w) (h9 : 9 ≤ w.heap.size) (hA : Rda w an answers.length (anL answers)) (ha : ∀ x ∈ answers, x ≤ 4294967295) (hal : answers.length ≤ 35184372087808) : Calls Tryz.prog 6 #[.string ⟨s.toArray⟩, an] w fun e w' => e = .returned (.bool true) ∧ Below w.heap.size w w' := by
  obtain ⟨i5, hi, hz, hsz, hbt⟩ := info_w32
  have HA := hide hA
  have Ha := hide ha
  have HL := hide (lives_any w hG h9)
  have HG := hide hG
  obtain ⟨ea, ca, ean, hca⟩ := hA.len
  subst ean
  have HO := hide (kd_outs s answers ha)
  have HE := hide (err_one s answers)
  have hlan : (anL answers).length = answers.length := by simp [anL]
  have HLan := hide hlan
  obtain ⟨na, hna⟩ : ∃ n, answers.length = n := ⟨_, rfl⟩
  have HNa := hide hna
  rw [hna] at HA hca hal hlan ⊢
  clear hA ha hG hna hlan
  go_enter Tryz.func6, Tryz.ntmps6
  go_wp2_with fail
  refine HL.out.mono ?_
  rintro e w1 ⟨rfl, hb1⟩
  have HB1 := hide hb1
  have HA1 := hide (HA.out.up hb1)
  clear hb1 HL
  have hon : ∀ u ∈ anL answers, u.oneCell' = true := by intro u hu; simp [anL] at hu; obtain ⟨x, _, rfl⟩ := hu; rfl
  go_upto_region 5 with (at_builtin; first
    | (refine app_nil rfl _ _ 22 rfl 30 i5 (.int .u32 0) 1 4 Tryz.underlying22 hi hz hsz hbt rfl (by decide) rfl _ na (anL answers) rfl HA1.out (by rw [HLan.out, HNa.out]; simp) hon (by unfold maxLen; omega) (by omega) ?_; intro v2 w2 ho2 hg2; obtain ⟨a2, c2, rfl⟩ := own_shape ho2; have HO2 := hide ho2; have HB2 := hide hg2; clear ho2 hg2)
    | (refine wpList_append_own _ rfl _ _ 22 rfl w1.heap.size 30 i5 (.int .u32 0) 1 4 Tryz.underlying22 hi hz hsz hbt rfl (by decide) _ na (anL answers) rfl (own_up HO2.out ((Below.refl w2.heap.size w2).alloc (Nat.le_refl _) _)) ⟨w2.heap.size, 0, none⟩ 2 2 [.int .u32 171, .int .u32 172] rfl rfl (fun j u hu => by rw [add0, World.cell?_alloc_new]; match j, hu with | 0, hu => exact hu | 1, hu => exact hu | j + 2, hu => simp at hu) (by simp [Value.oneCell']) (by unfold maxLen; omega) (by omega) (by have := HB2.out.size; simp; omega) ?_; intro v3 w3 ho3 hg3 _; have HO3 := hide ho3; have HGr3 := hide hg3; obtain ⟨gf, cf, rfl, hgf, hgf2, hcf, hcell⟩ := row_get ho3 (by omega); have HC3 := hide hcell; clear ho3 hg3 hcell))
  have hs2 := HB2.out.size
  have hs1 := HB1.out.size
  have hb3 : Below w.heap.size w w3 := HB1.out.trans ((HB2.out.mono hs1).trans (((Below.refl w2.heap.size w2).alloc (Nat.le_refl _) _ |>.mono (by omega)).trans (below_own (own_up HO2.out ((Below.refl w2.heap.size w2).alloc (Nat.le_refl _) _)) HGr3.out hs1 (by simp; omega))))
  have HB3 := hide hb3
  have hR3 : Rda w3 (.slice (some ⟨gf, 0, none⟩) na cf) na (anL answers) := .inr ⟨_, cf, rfl, by omega, fun j u hu => by rw [add0]; exact HC3.out j u (by rw [List.getElem?_append_left (List.getElem?_eq_some_iff.1 hu).1]; exact hu)⟩
  have HR3 := hide hR3
  have hq1 := HC3.out na (.int .u32 171) (by rw [List.getElem?_append_right (by have := HLan.out; have := HNa.out; omega)]; simp [HLan.out, HNa.out])
  have hq2 := HC3.out (na + 1) (.int .u32 172) (by rw [List.getElem?_append_right (by have := HLan.out; have := HNa.out; omega)]; simp [HLan.out, HNa.out])
  have HQ1 := hide hq1
  have HQ2 := hide hq2
  clear hb3 hR3 hq1 hq2 HO2 HGr3 HC3 HO3 HA1
  go_wp2_with fail
  refine (eval_any w3 s _ answers 300 hs (HG.out.below HB3.out) (by have := HB3.out.size; omega) (rda_an HR3.out HNa.out) Ha.out).mono ?_
  rintro e w4 ⟨ov, rfl, ho4, hb4⟩
  obtain ⟨oa, oc, rfl⟩ := own_shape ho4
  have HO4 := hide ho4
  have HB4 := hide (HB3.out.trans (hb4.mono HB3.out.size))
  have HB34 := hide hb4
  clear ho4 hb4
  obtain ⟨er, her⟩ : ∃ er, (ldT s).2.2 = er := ⟨_, rfl⟩
  rw [her] at HE
  rw [HE.out.2.2]
  obtain ⟨ln, hln⟩ : ∃ ln, (evT s answers 300).2.1 = ln := ⟨_, rfl⟩
  rw [hln]
  have HAe : Hid (evM (evT s answers 300) = evM (evT s answers 300)) := hide rfl
  obtain ⟨A, hAq⟩ : ∃ A, evM (evT s answers 300) = A := ⟨_, rfl⟩
  rw [hAq] at HO HO4 ⊢
  have HAq := hide hAq
  have HLn := hide hln
  obtain ⟨no, hno⟩ : ∃ no, A.outs.length = no := ⟨_, rfl⟩
  have HNo := hide hno
  rw [hno] at HO HO4 ⊢
  clear hAq hln HAe hno her
  simp only [meL]
  have HZ : Hid (Blk (w4.alloc (.cells #[.slice none 0 0, .int .i64 0, .int .i64 0, .int .i64 0, .int .i64 0] 26)) w4.heap.size 26 meZ) := hide ⟨heap_alloc_last _ _⟩
  have hbp : Below w4.heap.size w4 (putB (w4.alloc (.cells #[.slice none 0 0, .int .i64 0, .int .i64 0, .int .i64 0, .int .i64 0] 26)) w4.heap.size [.slice oa no oc, .int .i64 (A.state : Nat), .int .i64 (A.code : Nat), .int .i64 (A.taken : Nat), .int .i64 (A.used : Nat)] 26) := putB_below ((Below.refl _ _).alloc (Nat.le_refl _) _) (Nat.le_refl _) _ _
  have HM5 := hide (HZ.out.put [.slice oa no oc, .int .i64 (A.state : Nat), .int .i64 (A.code : Nat), .int .i64 (A.taken : Nat), .int .i64 (A.used : Nat)])
  have HO5 := hide ((IR.of (own_base HO4.out (Nat.le_succ _))).up hbp)
  have HB35 := hide (HB34.out.trans (hbp.mono HB34.out.size))
  have HB5 := hide (HB4.out.trans (hbp.mono HB4.out.size))
  have hsz4 : w.heap.size ≤ w3.heap.size ∧ w3.heap.size ≤ w4.heap.size := ⟨HB3.out.size, HB34.out.size⟩
  clear hbp
  go_upto_region 6 with (refine storeB [.slice oa no oc, .int .i64 (A.state : Nat), .int .i64 (A.code : Nat), .int .i64 (A.taken : Nat), .int .i64 (A.used : Nat)] info_me rfl rfl _ _ rfl w4.heap.size rfl rfl _ HZ.out rfl ?_)
  have hsz5 : (putB (w4.alloc (.cells #[.slice none 0 0, .int .i64 0, .int .i64 0, .int .i64 0, .int .i64 0] 26)) w4.heap.size [.slice oa no oc, .int .i64 (A.state : Nat), .int .i64 (A.code : Nat), .int .i64 (A.taken : Nat), .int .i64 (A.used : Nat)] 26).heap.size = w4.heap.size + 1 := by rw [putB_size]; simp
  have HS5 := hide hsz5
  generalize hw5 : putB (w4.alloc (.cells #[.slice none 0 0, .int .i64 0, .int .i64 0, .int .i64 0, .int .i64 0] 26)) w4.heap.size [.slice oa no oc, .int .i64 (A.state : Nat), .int .i64 (A.code : Nat), .int .i64 (A.taken : Nat), .int .i64 (A.used : Nat)] 26 = w5 at *
  clear hw5 HZ hsz5 HB34
  obtain ⟨N4, hN4⟩ : ∃ n, w4.heap.size = n := ⟨_, rfl⟩
  rw [hN4] at HM5 HO5 HS5 hsz4 ⊢
  clear HO4 HB4 hN4
  have hn1 : (na : Int) < ((na + 2 : Nat) : Int) := by omega
  have k1 := HB35.out.cell (p := ⟨gf, na, none⟩) hgf2 |>.trans HQ1.out
  have k2 := HB35.out.cell (p := ⟨gf, na + 1, none⟩) hgf2 |>.trans HQ2.out
  go_wp2_with fail
  refine (sameW_eq w5 _ _ answers na HNa.out (by omega) (HR3.out.up HB35.out) (HA.out.up HB5.out)).mono ?_
  rintro e w6 ⟨rfl, hb6⟩
  have c1 := hb6.cell (p := ⟨gf, na, none⟩) (cell_blk k1) |>.trans k1
  have c2 := hb6.cell (p := ⟨gf, na + 1, none⟩) (cell_blk k2) |>.trans k2
  have HB6 := hide (HB5.out.trans (hb6.mono HB5.out.size))
  have HM6 := hide (HM5.out.below hb6 HM5.out.lt)
  have HO6 := hide (HO5.out.up hb6)
  have HS6 : Hid (N4 + 1 ≤ w6.heap.size) := hide (by have := HS5.out; have := hb6.size; omega)
  clear hb6 k1 k2 HM5 HO5 HS5 HB35 HR3 HQ1 HQ2 hn1
  have hx1 : IntKind.i64.wrap ((na : Int) + 1) = ((na + 1 : Nat) : Int) := by rw [IntKind.wrap_i64]; omega
  go_upto_region 8 with fail
  clear c1 c2 hx1
  have hgw : ∀ wr, Below w.heap.size w wr → Lg wr := fun wr hb => HG.out.below hb
  have HGw := hide hgw
  clear hgw
  obtain ⟨nw, hnw⟩ : ∃ n, (compT s).1.length = n := ⟨_, rfl⟩
  obtain ⟨nd, hnd⟩ : ∃ n, (datT s).1.length = n := ⟨_, rfl⟩
  obtain ⟨cl, hcl⟩ : ∃ n, (compT s).2.1 = n := ⟨_, rfl⟩
  have hlw : nw ≤ 512 := by rw [← hnw]; exact comp_len s
  have hld : nd ≤ 16385 := by rw [← hnd]; exact dat_len s
  have HComp : Hid (∀ wr, Below w.heap.size w wr → Calls Tryz.prog 16 #[.string ⟨s.toArray⟩] wr fun e w' => ∃ a c, e = .returned (.tuple #[.slice a nw c, .int .i64 (cl : Nat), .int .i64 (er : Nat)]) ∧ IR w' wr.heap.size w'.heap.size 30 1 (.slice a nw c) nw (wds (compT s).1) ∧ Below wr.heap.size wr w') := hide (fun wr hb => (comp_any wr s hs (HGw.out wr hb) (by have := hb.size; omega)).mono (by
    rintro e w' ⟨u, rfl, ho, hb'⟩
    rw [hnw] at ho
    obtain ⟨a, c, rfl⟩ := own_shape ho
    exact ⟨a, c, by rw [hcl, HE.out.1], IR.of ho, hb'⟩))
  have HData : Hid (∀ wr, Below w.heap.size w wr → Calls Tryz.prog 17 #[.string ⟨s.toArray⟩] wr fun e w' => ∃ a c a' c', e = .returned (.tuple #[.slice a nd c, .slice a' nd c', .int .i64 (er : Nat)]) ∧ IR w' wr.heap.size w'.heap.size 9 1 (.slice a nd c) nd (nmL (datT s).1) ∧ IR w' wr.heap.size w'.heap.size 3 1 (.slice a' nd c') nd (adL (datT s).1) ∧ Below wr.heap.size wr w') := hide (fun wr hb => (data_any wr s hs (HGw.out wr hb) (by have := hb.size; omega)).mono (by
    rintro e w' ⟨u, u', rfl, ho, ho', hb'⟩
    rw [hnd] at ho ho'
    obtain ⟨a, c, rfl⟩ := own_shape ho
    obtain ⟨a', c', rfl⟩ := own_shape ho'
    exact ⟨a, c, a', c', by rw [HE.out.2.1], IR.of ho, IR.of ho', hb'⟩))
  have HNw := hide hnw
  have HNd := hide hnd
  clear hnw hnd hcl
  go_wp2_with fail
  refine (HComp.out w6 HB6.out).mono ?_
  rintro e w7 ⟨wa, wc, rfl, iw, hb⟩
  have HB7 := hide (HB6.out.trans (hb.mono HB6.out.size))
  have HM7 := hide (HM6.out.below hb HM6.out.lt)
  have HO7 := hide (HO6.out.up hb)
  have HW7 := hide iw
  have hz7 := hb.size
  clear iw hb HM6 HO6
  go_wp2_with fail
  refine (HComp.out w7 HB7.out).mono ?_
  rintro e w8 ⟨va, vc, rfl, iv, hb⟩
  have HB8 := hide (HB7.out.trans (hb.mono HB7.out.size))
  have HM8 := hide (HM7.out.below hb HM7.out.lt)
  have HO8 := hide (HO7.out.up hb)
  have HW8 := hide (HW7.out.up hb)
  have HV8 := hide iv
  have hz8 := hb.size
  clear iv hb HM7 HO7 HW7 HB6 HB7
  go_wp2_with fail
  refine (HData.out w8 HB8.out).mono ?_
  rintro e w9 ⟨n1, n2, a1, a2, rfl, inn, ia, hb⟩
  have HB9 := hide (HB8.out.trans (hb.mono HB8.out.size))
  have HM9 := hide (HM8.out.below hb HM8.out.lt)
  have HO9 := hide (HO8.out.up hb)
  have HW9 := hide (HW8.out.up hb)
  have HV9 := hide (HV8.out.up hb)
  have HN9 := hide inn
  have HAd9 := hide ia
  have hz9 := hb.size
  clear inn ia hb HM8 HO8 HW8 HV8 HB8
  go_wp2_with fail
  refine (HData.out w9 HB9.out).mono ?_
  rintro e w10 ⟨k1, k2, b1, b2, rfl, ik, ib, hb⟩
  have hz10 := hb.size
  have HK : Hid (Ks w (LO w3.heap.size N4 w6.heap.size w7.heap.size w8.heap.size w9.heap.size w10.heap.size) N4 [.slice oa no oc, .int .i64 (A.state : Nat), .int .i64 (A.code : Nat), .int .i64 (A.taken : Nat), .int .i64 (A.used : Nat)] (.slice oa no oc) (.slice wa nw wc) (.slice va nw vc) (.slice n1 nd n2) (.slice a1 nd a2) (.slice k1 nd k2) (.slice b1 nd b2) A.outs (wds (compT s).1) (wds (compT s).1) (nmL (datT s).1) (adL (datT s).1) (nmL (datT s).1) (adL (datT s).1) no nw nd w10) := hide
    ⟨HB9.out.trans (hb.mono HB9.out.size), HO9.out.up hb, HM9.out.below hb HM9.out.lt, HW9.out.up hb, HV9.out.up hb, HN9.out.up hb, HAd9.out.up hb, ik, ib, by have := HS6.out; simp only [LO]; omega⟩
  have HPr : Hid (wds (compT s).1 = (compT s).1.map (fun z => Value.int .u32 ((z : Nat) : Int))) := hide rfl
  clear ik ib hb HM9 HO9 HW9 HV9 HN9 HAd9 HB9 hz7 hz8 hz9 hz10 HS6 hsz4
  have HLo : Hid (9 ≤ w.heap.size) := hide h9
  generalize hlo : LO w3.heap.size N4 w6.heap.size w7.heap.size w8.heap.size w9.heap.size w10.heap.size = lo at *
  clear hlo
  go_wp2_with fail
  refine (sameW_eq w10 _ _ (compT s).1 nw HNw.out (by omega) HK.out.rw.rdb.rda HK.out.rv.rdb.rda).mono ?_
  rintro e w11 ⟨rfl, hb11⟩
  have HK1 := hide (HK.out.up hb11)
  clear hb11 HK
  go_wp2_with fail
  refine (sameT_eq w11 _ _ ((datT s).1.map (·.name)) nd (by simp [HNd.out]) (by omega) (by rw [← nmL_eq]; exact HK1.out.rn.rdb.rda) (by rw [← nmL_eq]; exact HK1.out.rk.rdb.rda)).mono ?_
  rintro e w12 ⟨rfl, hb12⟩
  have HK2 := hide (HK1.out.up hb12)
  clear hb12 HK1
  go_wp2_with fail
  refine (sameI_eq w12 _ _ ((datT s).1.map fun v => ((v.at' : Nat) : Int)) nd (by simp [HNd.out]) (by omega) (by rw [← adL_eq]; exact HK2.out.ra.rdb.rda) (by rw [← adL_eq]; exact HK2.out.rb.rdb.rda)).mono ?_
  rintro e w13 ⟨rfl, hb13⟩
  have HK3 := hide (HK2.out.up hb13)
  clear hb13 HK2
  go_upto_region 15 with fail
  have lxw : (wds (compT s).1).length = nw := by rw [← HNw.out]; simp [wds]
  have lxn : (nmL (datT s).1).length = nd := by rw [kd_nm, HNd.out]
  have lxa : (adL (datT s).1).length = nd := by rw [kd_ad, HNd.out]
  have HLx := hide (And.intro lxw (And.intro lxn lxa))
  clear lxw lxn lxa
  have H0 : Hid (Ks w lo N4 [.slice oa no oc, .int .i64 (A.state : Nat), .int .i64 (A.code : Nat), .int .i64 (A.taken : Nat), .int .i64 (A.used : Nat)] (.slice oa no oc) (.slice wa nw wc) (.slice va nw vc) (.slice n1 nd n2) (.slice a1 nd a2) (.slice k1 nd k2) (.slice b1 nd b2) (A.outs) (fillL (.int .u32 1) 0 (wds (compT s).1)) (wds (compT s).1) (nmL (datT s).1) (adL (datT s).1) (nmL (datT s).1) (adL (datT s).1) no nw nd w13) := hide (by rw [fill_zero]; exact HK3.out)
  go_loopw [22] (fun i wr => ∃ k : Nat, k ≤ nw ∧ i = .int .i64 (k : Int) ∧ Hid (Ks w lo N4 [.slice oa no oc, .int .i64 (A.state : Nat), .int .i64 (A.code : Nat), .int .i64 (A.taken : Nat), .int .i64 (A.used : Nat)] (.slice oa no oc) (.slice wa nw wc) (.slice va nw vc) (.slice n1 nd n2) (.slice a1 nd a2) (.slice k1 nd k2) (.slice b1 nd b2) (A.outs) (fillL (.int .u32 1) k (wds (compT s).1)) (wds (compT s).1) (nmL (datT s).1) (adL (datT s).1) (nmL (datT s).1) (adL (datT s).1) no nw nd wr)) (fun i _ => nw - (intOf i).toNat)
  case atStart => exact ⟨0, by omega, rfl, H0⟩
  case round =>
    clear H0 HK3
    obtain ⟨k, hk, rfl, HS⟩ := hrel
    by_cases hlt : k < nw
    · have hd : decide ((k : Int) < (nw : Int)) = true := by simp; omega
      have hki : (k : Int) < (nw : Int) := by omega
      obtain ⟨g, u, rfl, hc, _, hf, _⟩ := HS.out.rw.cell (j := k) (by omega)
      have HN : Hid (Ks w lo N4 [.slice oa no oc, .int .i64 (A.state : Nat), .int .i64 (A.code : Nat), .int .i64 (A.taken : Nat), .int .i64 (A.used : Nat)] (.slice oa no oc) (.slice (some ⟨g, 0, none⟩) nw wc) (.slice va nw vc) (.slice n1 nd n2) (.slice a1 nd a2) (.slice k1 nd k2) (.slice b1 nd b2) (A.outs) (fillL (.int .u32 1) (k + 1) (wds (compT s).1)) (wds (compT s).1) (nmL (datT s).1) (adL (datT s).1) (nmL (datT s).1) (adL (datT s).1) no nw nd (wr.setCell ⟨g, k, none⟩ (.int .u32 1))) := hide (by
        have h2 := HS.out.setW (j := k) (u := .int .u32 1)
        rw [fill_step _ (by rw [HLx.out.1]; exact hlt)] at h2
        exact h2)
      clear HS
      go_wp2
      go_roundw
      case rel => exact ⟨k + 1, by omega, by go_num, HN⟩
      case measure => simp [intOf]; omega
    · have hd : decide ((k : Int) < (nw : Int)) = false := by simp; omega
      obtain rfl : nw = k := by omega
      have K1 : Hid (Ks w lo N4 [.slice oa no oc, .int .i64 (A.state : Nat), .int .i64 (A.code : Nat), .int .i64 (A.taken : Nat), .int .i64 (A.used : Nat)] (.slice oa no oc) (.slice wa nw wc) (.slice va nw vc) (.slice n1 nd n2) (.slice a1 nd a2) (.slice k1 nd k2) (.slice b1 nd b2) (A.outs) (List.replicate nw (.int .u32 1)) (wds (compT s).1) (nmL (datT s).1) (adL (datT s).1) (nmL (datT s).1) (adL (datT s).1) no nw nd wr) := hide (by
        have h2 := HS.out
        rw [show fillL (.int .u32 1) nw (wds (compT s).1) = List.replicate nw (.int .u32 1) by rw [← HLx.out.1, fill_all]] at h2
        exact h2)
      clear HS hlt hd
      have H0 : Hid (Ks w lo N4 [.slice oa no oc, .int .i64 (A.state : Nat), .int .i64 (A.code : Nat), .int .i64 (A.taken : Nat), .int .i64 (A.used : Nat)] (.slice oa no oc) (.slice wa nw wc) (.slice va nw vc) (.slice n1 nd n2) (.slice a1 nd a2) (.slice k1 nd k2) (.slice b1 nd b2) (A.outs) (List.replicate nw (.int .u32 1)) (wds (compT s).1) (fillL (.string ⟨#[120]⟩) 0 (nmL (datT s).1)) (fillL (.int .i64 (-1)) 0 (adL (datT s).1)) (nmL (datT s).1) (adL (datT s).1) no nw nd wr) := hide (by rw [fill_zero, fill_zero]; exact K1.out)
      go_wp2
      go_loopw [23] (fun i wr => ∃ k : Nat, k ≤ nd ∧ i = .int .i64 (k : Int) ∧ Hid (Ks w lo N4 [.slice oa no oc, .int .i64 (A.state : Nat), .int .i64 (A.code : Nat), .int .i64 (A.taken : Nat), .int .i64 (A.used : Nat)] (.slice oa no oc) (.slice wa nw wc) (.slice va nw vc) (.slice n1 nd n2) (.slice a1 nd a2) (.slice k1 nd k2) (.slice b1 nd b2) (A.outs) (List.replicate nw (.int .u32 1)) (wds (compT s).1) (fillL (.string ⟨#[120]⟩) k (nmL (datT s).1)) (fillL (.int .i64 (-1)) k (adL (datT s).1)) (nmL (datT s).1) (adL (datT s).1) no nw nd wr)) (fun i _ => nd - (intOf i).toNat)
      case atStart => exact ⟨0, by omega, rfl, H0⟩
      case round =>
        clear H0 K1
        obtain ⟨k, hk, rfl, HS⟩ := hrel
        by_cases hlt : k < nd
        · have hd : decide ((k : Int) < (nd : Int)) = true := by simp; omega
          have hki : (k : Int) < (nd : Int) := by omega
          obtain ⟨g, u, rfl, hc, _, hf, _⟩ := HS.out.rn.cell (j := k) (by omega)
          have HN : Hid (Ks w lo N4 [.slice oa no oc, .int .i64 (A.state : Nat), .int .i64 (A.code : Nat), .int .i64 (A.taken : Nat), .int .i64 (A.used : Nat)] (.slice oa no oc) (.slice wa nw wc) (.slice va nw vc) (.slice (some ⟨g, 0, none⟩) nd n2) (.slice a1 nd a2) (.slice k1 nd k2) (.slice b1 nd b2) (A.outs) (List.replicate nw (.int .u32 1)) (wds (compT s).1) (fillL (.string ⟨#[120]⟩) (k + 1) (nmL (datT s).1)) (fillL (.int .i64 (-1)) k (adL (datT s).1)) (nmL (datT s).1) (adL (datT s).1) no nw nd (wr.setCell ⟨g, k, none⟩ (.string ⟨#[120]⟩))) := hide (by
            have h2 := HS.out.setN (j := k) (u := .string ⟨#[120]⟩)
            rw [fill_step _ (by rw [HLx.out.2.1]; exact hlt)] at h2
            exact h2)
          clear HS
          go_upto_region 22 with fail
          clear hc hf
          generalize hww : wr.setCell ⟨g, k, none⟩ (.string ⟨#[120]⟩) = wx at *
          clear hww
          obtain ⟨g', u', rfl, hc', _, hf', _⟩ := HN.out.ra.cell (j := k) (by omega)
          have HN2 : Hid (Ks w lo N4 [.slice oa no oc, .int .i64 (A.state : Nat), .int .i64 (A.code : Nat), .int .i64 (A.taken : Nat), .int .i64 (A.used : Nat)] (.slice oa no oc) (.slice wa nw wc) (.slice va nw vc) (.slice (some ⟨g, 0, none⟩) nd n2) (.slice (some ⟨g', 0, none⟩) nd a2) (.slice k1 nd k2) (.slice b1 nd b2) (A.outs) (List.replicate nw (.int .u32 1)) (wds (compT s).1) (fillL (.string ⟨#[120]⟩) (k + 1) (nmL (datT s).1)) (fillL (.int .i64 (-1)) (k + 1) (adL (datT s).1)) (nmL (datT s).1) (adL (datT s).1) no nw nd (wx.setCell ⟨g', k, none⟩ (.int .i64 (-1)))) := hide (by
            have h2 := HN.out.setA (j := k) (u := .int .i64 (-1))
            rw [fill_step _ (by rw [HLx.out.2.2]; exact hlt)] at h2
            exact h2)
          clear HN
          go_wp2
          go_roundw
          case rel => exact ⟨k + 1, by omega, by go_num, HN2⟩
          case measure => simp [intOf]; omega
        · have hd : decide ((k : Int) < (nd : Int)) = false := by simp; omega
          obtain rfl : nd = k := by omega
          have K2 : Hid (Ks w lo N4 [.slice oa no oc, .int .i64 (A.state : Nat), .int .i64 (A.code : Nat), .int .i64 (A.taken : Nat), .int .i64 (A.used : Nat)] (.slice oa no oc) (.slice wa nw wc) (.slice va nw vc) (.slice n1 nd n2) (.slice a1 nd a2) (.slice k1 nd k2) (.slice b1 nd b2) (A.outs) (List.replicate nw (.int .u32 1)) (wds (compT s).1) (List.replicate nd (.string ⟨#[120]⟩)) (List.replicate nd (.int .i64 (-1))) (nmL (datT s).1) (adL (datT s).1) no nw nd wr) := hide (by
            have h2 := HS.out
            rw [show fillL (.string ⟨#[120]⟩) nd (nmL (datT s).1) = List.replicate nd (.string ⟨#[120]⟩) by rw [← HLx.out.2.1, fill_all], show fillL (.int .i64 (-1)) nd (adL (datT s).1) = List.replicate nd (.int .i64 (-1)) by rw [← HLx.out.2.2, fill_all]] at h2
            exact h2)
          clear HS hlt hd
          have c0 := K2.out.rM.get (j := 0) rfl
          obtain ⟨io, hio, hzo, hso, hbo⟩ := info_out
          have HLo2 : Hid ((A.outs.flatMap outL).length = no * 2) := hide (by rw [outs_len, HNo.out])
          have hn2 : no ≤ 1000000 := HO.out
          have hone : ∀ u ∈ A.outs.flatMap outL, u.oneCell' = true := by
            intro u hu
            obtain ⟨x, _, hx⟩ := List.mem_flatMap.1 hu
            simp [outL] at hx
            rcases hx with rfl | rfl <;> rfl
          go_upto_region 24 with (at_builtin; refine app_nil rfl _ _ 24 rfl 32 io _ 2 16 Tryz.underlying24 hio hzo hso hbo rfl (by decide) rfl _ no (A.outs.flatMap outL) rfl K2.out.rm.rdb.rda HLo2.out hone (by unfold maxLen; omega) (by omega) ?_; intro v14 w14 ho14 hb14; obtain ⟨o1, o2, rfl⟩ := own_shape ho14; have IO := hide (IR.of ho14); have K3 := hide (K2.out.up hb14); have HZ14 := hide (And.intro K2.out.ch hb14.size); clear ho14 hb14)
          clear c0 hone K2
          obtain ⟨p13, hp13⟩ : ∃ p, wr.heap.size = p := ⟨_, rfl⟩
          rw [hp13] at IO HZ14
          have hlo6 : lo 6 ≤ p13 := by have := HZ14.out.1; omega
          have HP := hide (And.intro hlo6 (And.intro HZ14.out.2 hn2))
          clear hp13 HZ14 hlo6 hn2
          obtain ⟨p14, hp14⟩ : ∃ p, w14.heap.size = p := ⟨_, rfl⟩
          rw [hp14] at IO HP
          clear hp14
          have H0 : Hid (Ks w lo N4 [.slice oa no oc, .int .i64 (A.state : Nat), .int .i64 (A.code : Nat), .int .i64 (A.taken : Nat), .int .i64 (A.used : Nat)] (.slice oa no oc) (.slice wa nw wc) (.slice va nw vc) (.slice n1 nd n2) (.slice a1 nd a2) (.slice k1 nd k2) (.slice b1 nd b2) (fillO 0 A.outs) (List.replicate nw (.int .u32 1)) (wds (compT s).1) (List.replicate nd (.string ⟨#[120]⟩)) (List.replicate nd (.int .i64 (-1))) (nmL (datT s).1) (adL (datT s).1) no nw nd w14 ∧ IR w14 p13 p14 32 2 (.slice o1 no o2) no (A.outs.flatMap outL)) := hide ⟨K3.out, IO.out⟩
          go_wp2
          go_loopw [25] (fun i wr => ∃ k : Nat, k ≤ no ∧ i = .int .i64 (k : Int) ∧ Hid (Ks w lo N4 [.slice oa no oc, .int .i64 (A.state : Nat), .int .i64 (A.code : Nat), .int .i64 (A.taken : Nat), .int .i64 (A.used : Nat)] (.slice oa no oc) (.slice wa nw wc) (.slice va nw vc) (.slice n1 nd n2) (.slice a1 nd a2) (.slice k1 nd k2) (.slice b1 nd b2) (fillO k A.outs) (List.replicate nw (.int .u32 1)) (wds (compT s).1) (List.replicate nd (.string ⟨#[120]⟩)) (List.replicate nd (.int .i64 (-1))) (nmL (datT s).1) (adL (datT s).1) no nw nd wr ∧ IR wr p13 p14 32 2 (.slice o1 no o2) no (A.outs.flatMap outL))) (fun i _ => no - (intOf i).toNat)
          case atStart => exact ⟨0, by omega, rfl, H0⟩
          case round =>
            clear H0 K3 IO
            obtain ⟨k, hk, rfl, HS⟩ := hrel
            have hn2 := HP.out.2.2
            have c0 := HS.out.1.rM.get (j := 0) rfl
            by_cases hlt : k < no
            · have hd : decide ((k : Int) < (no : Int)) = true := by simp; omega
              have hki : (k : Int) < (no : Int) := by omega
              obtain ⟨g, u, rfl, hc, _, hf, hgl⟩ := HS.out.1.rm.cell (j := k * 2) (by omega)
              have HN : Hid (Ks w lo N4 [.slice (some ⟨g, 0, none⟩) no oc, .int .i64 (A.state : Nat), .int .i64 (A.code : Nat), .int .i64 (A.taken : Nat), .int .i64 (A.used : Nat)] (.slice (some ⟨g, 0, none⟩) no oc) (.slice wa nw wc) (.slice va nw vc) (.slice n1 nd n2) (.slice a1 nd a2) (.slice k1 nd k2) (.slice b1 nd b2) (fillO (k + 1) A.outs) (List.replicate nw (.int .u32 1)) (wds (compT s).1) (List.replicate nd (.string ⟨#[120]⟩)) (List.replicate nd (.int .i64 (-1))) (nmL (datT s).1) (adL (datT s).1) no nw nd (wr.setCell ⟨g, k * 2, none⟩ (.int .i64 ((99 : Nat) : Int))) ∧ IR (wr.setCell ⟨g, k * 2, none⟩ (.int .i64 ((99 : Nat) : Int))) p13 p14 32 2 (.slice o1 no o2) no (A.outs.flatMap outL)) := hide ⟨HS.out.1.setM (j := k) (by rw [HNo.out]; exact hlt), HS.out.2.keep (gb_set _ _ _ _) (fun q hq hq2 => by cases hq; have h1 := (HS.out.2.own.lt g hq2).1; have h2 := HS.out.1.rm.hi g rfl; have := HP.out.1; have := HS.out.1.ch; omega)⟩
              clear HS
              go_wp2
              go_roundw
              case rel => exact ⟨k + 1, by omega, by go_num, HN⟩
              case measure => simp [intOf]; omega
            · have hd : decide ((k : Int) < (no : Int)) = false := by simp; omega
              obtain rfl : no = k := by omega
              have K4 : Hid (Ks w lo N4 [.slice oa no oc, .int .i64 (A.state : Nat), .int .i64 (A.code : Nat), .int .i64 (A.taken : Nat), .int .i64 (A.used : Nat)] (.slice oa no oc) (.slice wa nw wc) (.slice va nw vc) (.slice n1 nd n2) (.slice a1 nd a2) (.slice k1 nd k2) (.slice b1 nd b2) (fillO no A.outs) (List.replicate nw (.int .u32 1)) (wds (compT s).1) (List.replicate nd (.string ⟨#[120]⟩)) (List.replicate nd (.int .i64 (-1))) (nmL (datT s).1) (adL (datT s).1) no nw nd wr) := hide HS.out.1
              have IO : Hid (IR wr p13 p14 32 2 (.slice o1 no o2) no (A.outs.flatMap outL)) := hide HS.out.2
              clear HS hlt hd hio
              have hn2 := HP.out.2.2
              obtain ⟨is, his, hzs, hss, hbs⟩ := info_str
              obtain ⟨ii, hii, hzi, hsi, hbi⟩ := info_int
              go_upto_region 29 with (at_builtin; refine app_keeps rfl _ _ 22 rfl (lo 2) 30 i5 (.int .u32 0) 1 4 Tryz.underlying22 hi hz hsz hbt rfl (by decide) (.slice wa nw wc) nw (List.replicate nw (.int .u32 1)) rfl (own_up K4.out.rw.own ((Below.refl _ wr).alloc (Nat.le_refl _) _)) ⟨_, 0, none⟩ 1 1 [.int .u32 2] rfl rfl (cells_new _ _ _) (by simp [Value.oneCell']) (by unfold maxLen; omega) (by omega) (by have := K4.out.ch; simp; omega) ?_; intro v1 w15 ho hg hr hf; obtain ⟨x1, x2, rfl⟩ := own_shape ho; have K5 := hide (K4.out.app IO.out HP.out.1 ho hg hr hf); clear ho hg hr hf)
              clear K4 IO
              go_upto_region 30 with (at_builtin; refine app_keeps rfl _ _ 47 rfl (lo 4) 9 is (.string ⟨#[]⟩) 1 16 Tryz.underlying47 his hzs hss hbs rfl (by decide) (.slice n1 nd n2) nd (List.replicate nd (.string ⟨#[120]⟩)) rfl (own_up K5.out.inn.own ((Below.refl _ w15).alloc (Nat.le_refl _) _)) ⟨_, 0, none⟩ 1 1 [.string ⟨#[121]⟩] rfl rfl (cells_new _ _ _) (by simp [Value.oneCell']) (by unfold maxLen; omega) (by omega) (by have := K5.out.kr.ch; simp; omega) ?_; intro v1 w16 ho hg hr hf; obtain ⟨y1, y2, rfl⟩ := own_shape ho; have K6 := hide (K5.out.app ho hg hr hf); clear ho hg hr hf)
              clear K5
              go_upto_region 31 with (at_builtin; refine app_keeps rfl _ _ 48 rfl (lo 4) 3 ii (.int .i64 0) 1 8 Tryz.underlying48 hii hzi hsi hbi rfl (by decide) (.slice a1 nd a2) nd (List.replicate nd (.int .i64 (-1))) rfl (own_up K6.out.ia.own ((Below.refl _ w16).alloc (Nat.le_refl _) _)) ⟨_, 0, none⟩ 1 1 [.int .i64 (-2)] rfl rfl (cells_new _ _ _) (by simp [Value.oneCell']) (by unfold maxLen; omega) (by omega) (by have := K6.out.kr.ch; simp; omega) ?_; intro v1 w17 ho hg hr hf; obtain ⟨z1, z2, rfl⟩ := own_shape ho; have K7 := hide (K6.out.app ho hg hr hf); clear ho hg hr hf)
              clear K6
              have c0 := K7.out.kr.rM.get (j := 0) rfl
              obtain ⟨io, hio, hzo, hso, hbo⟩ := info_out
              go_upto_region 32 with (at_builtin; refine app_keeps rfl _ _ 24 rfl (lo 0) 32 io (_) 2 16 Tryz.underlying24 hio hzo hso hbo rfl (by decide) (.slice oa no oc) no ((fillO no A.outs).flatMap outL) rfl (own_up K7.out.im.own ((Below.refl _ w17).alloc (Nat.le_refl _) _)) ⟨_, 0, none⟩ 1 1 (outL (98, 0)) rfl rfl (cells_new _ _ _) (by simp [outL, Value.oneCell']) (by unfold maxLen; omega) (by omega) (by have := K7.out.kr.ch; simp; omega) ?_; intro v1 w18 ho hg hr hf; obtain ⟨q1, q2, rfl⟩ := own_shape ho; have K8 := hide (K7.out.app ho hg hr); clear ho hg hr hf)
              clear K7 c0
              clear hn2 his hzs hss hbs hii hzi hsi hbi hio hzo hso hbo
              clear hi hz hsz hbt
              go_wp2_with fail
              refine (eval_any w18 s _ answers 300 hs (HGw.out w18 K8.out.kr.be) (by have := K8.out.kr.be.size; have := HLo.out; omega) (rda_an (HA.out.up K8.out.kr.be) HNa.out) Ha.out).mono ?_
              rintro e w19 ⟨pv, rfl, ho, hb⟩
              rw [HAq.out, HNo.out] at ho
              obtain ⟨p1, p2, rfl⟩ := own_shape ho
              rw [HAq.out, HLn.out, HE.out.2.2]
              have K9 := hide (K8.out.up hb)
              have HPo : Hid (Rw w19 (fun _ => True) (.slice p1 no p2) no (A.outs.flatMap outL)) := hide ⟨own_rdb ho, fun _ _ => trivial⟩
              clear ho hb K8
              simp only [meL]
              have HZ : Hid (Blk (w19.alloc (.cells #[.slice none 0 0, .int .i64 0, .int .i64 0, .int .i64 0, .int .i64 0] 26)) w19.heap.size 26 meZ) := hide ⟨heap_alloc_last _ _⟩
              have hbp : Below w19.heap.size w19 (putB (w19.alloc (.cells #[.slice none 0 0, .int .i64 0, .int .i64 0, .int .i64 0, .int .i64 0] 26)) w19.heap.size [.slice p1 no p2, .int .i64 (A.state : Nat), .int .i64 (A.code : Nat), .int .i64 (A.taken : Nat), .int .i64 (A.used : Nat)] 26) := putB_below ((Below.refl _ _).alloc (Nat.le_refl _) _) (Nat.le_refl _) _ _
              have HQ0 := hide (HZ.out.put [.slice p1 no p2, .int .i64 (A.state : Nat), .int .i64 (A.code : Nat), .int .i64 (A.taken : Nat), .int .i64 (A.used : Nat)])
              have HPo0 := hide (HPo.out.up hbp)
              have K10 := hide (K9.out.up hbp)
              clear hbp K9 HPo
              go_upto_region 33 with (refine storeB [.slice p1 no p2, .int .i64 (A.state : Nat), .int .i64 (A.code : Nat), .int .i64 (A.taken : Nat), .int .i64 (A.used : Nat)] info_me rfl rfl _ _ rfl w19.heap.size rfl rfl _ HZ.out rfl ?_)
              generalize hw5 : putB (w19.alloc (.cells #[.slice none 0 0, .int .i64 0, .int .i64 0, .int .i64 0, .int .i64 0] 26)) w19.heap.size [.slice p1 no p2, .int .i64 (A.state : Nat), .int .i64 (A.code : Nat), .int .i64 (A.taken : Nat), .int .i64 (A.used : Nat)] 26 = w20 at *
              clear hw5 HZ
              obtain ⟨N5, hN5⟩ : ∃ n, w19.heap.size = n := ⟨_, rfl⟩
              rw [hN5] at HQ0 ⊢
              clear hN5
              go_wp2_with fail
              refine (HComp.out w20 K10.out.kr.be).mono ?_
              rintro e w21 ⟨ua, uc, rfl, iu, hb⟩
              have K11 := hide (K10.out.up hb)
              have HQ1 := hide (HQ0.out.below hb HQ0.out.lt)
              have HPo1 := hide (HPo0.out.up hb)
              have HU1 := hide iu.rwb
              clear iu hb K10 HQ0 HPo0
              go_wp2_with fail
              refine (HData.out w21 K11.out.kr.be).mono ?_
              rintro e w22 ⟨l1, l2, d1, d2, rfl, il, id, hb⟩
              have K12 := hide (K11.out.up hb)
              have HQ2 := hide (HQ1.out.below hb HQ1.out.lt)
              have HPo2 := hide (HPo1.out.up hb)
              have HU2 := hide (HU1.out.up hb)
              have HL2 := hide il.rwb
              have HD2 := hide id.rwb
              clear il id hb K11 HQ1 HPo1 HU1
              have q0 := HQ2.out.get (j := 0) rfl
              go_wp2_with fail
              refine (sameW_eq w22 _ _ (compT s).1 nw HNw.out (by omega) HU2.out.rd.rda K12.out.kr.rv.rd.rda).mono ?_
              rintro e w23 ⟨rfl, hb⟩
              have K13 := hide (K12.out.up hb)
              have HQ3 := hide (HQ2.out.below hb HQ2.out.lt)
              have HPo3 := hide (HPo2.out.up hb)
              have HL3 := hide (HL2.out.up hb)
              have HD3 := hide (HD2.out.up hb)
              clear hb K12 HQ2 HPo2 HU2 HL2 HD2 q0
              go_wp2_with fail
              refine (sameT_eq w23 _ _ ((datT s).1.map (·.name)) nd (by simp [HNd.out]) (by omega) (by rw [← nmL_eq]; exact HL3.out.rd.rda) (by rw [← nmL_eq]; exact K13.out.kr.rk.rd.rda)).mono ?_
              rintro e w24 ⟨rfl, hb⟩
              have K14 := hide (K13.out.up hb)
              have HQ4 := hide (HQ3.out.below hb HQ3.out.lt)
              have HPo4 := hide (HPo3.out.up hb)
              have HD4 := hide (HD3.out.up hb)
              clear hb K13 HQ3 HPo3 HL3 HD3
              go_wp2_with fail
              refine (sameI_eq w24 _ _ ((datT s).1.map fun v => ((v.at' : Nat) : Int)) nd (by simp [HNd.out]) (by omega) (by rw [← adL_eq]; exact HD4.out.rd.rda) (by rw [← adL_eq]; exact K14.out.kr.rb.rd.rda)).mono ?_
              rintro e w25 ⟨rfl, hb⟩
              have K15 := hide (K14.out.up hb)
              have HQ5 := hide (HQ4.out.below hb HQ4.out.lt)
              have HPo5 := hide (HPo4.out.up hb)
              clear hb K14 HQ4 HPo4 HD4
              go_upto_region 37 with fail
              obtain ⟨xq, hxq⟩ : ∃ x, x = w25 := ⟨_, rfl⟩
              have HXO : Hid (∀ i, i < no → ∃ x, A.outs[i]? = some x) := hide (fun i hi => ⟨A.outs[i]'(by rw [HNo.out]; exact hi), List.getElem?_eq_getElem _⟩)
              clear hxq xq
              go_wp2
              go_loopw [39] (fun i wr => ∃ k : Nat, k ≤ no ∧ i = .int .i64 (k : Int) ∧ ∃ d, wr = w25.drewN d) (fun i _ => no - (intOf i).toNat)
              case atStart => exact ⟨0, by omega, rfl, 0, by rw [World.drewN_zero]⟩
              case round =>
                obtain ⟨k, hk, rfl, d, hd0⟩ := hrel
                have hn2 := HP.out.2.2
                have HB := hide (below_drew w25 d)
                rw [← hd0] at HB
                have HDr : Hid (∃ d, wr = w25.drewN d) := hide ⟨d, hd0⟩
                clear hd0
                have K16 := hide (K15.out.up HB.out)
                have HQ6 := hide (HQ5.out.below HB.out HQ5.out.lt)
                have HPo6 := hide (HPo5.out.up HB.out)
                clear HB
                have q0 := HQ6.out.get (j := 0) rfl
                by_cases hlt : k < no
                · have hd : decide ((k : Int) < (no : Int)) = true := by simp; omega
                  have hki : (k : Int) < (no : Int) := by omega
                  obtain ⟨x, hx⟩ := HXO.out k hlt
                  obtain ⟨g, c, e1, a0, a1⟩ := HPo6.out.outs hx (by omega)
                  cases e1
                  obtain ⟨g', c', e2, f0, f1⟩ := K16.out.kr.ro.outs hx (by omega)
                  cases e2
                  obtain ⟨xs, xw⟩ := x
                  dsimp only at a0 a1 f0 f1
                  clear hx K16 HQ6 HPo6 K15 HQ5 HPo5
                  go_upto_region 40 with fail
                  go_quiet (fail)
                  go_wp2
                  go_roundw
                  case rel => exact ⟨k + 1, by omega, by go_num, by obtain ⟨d, rfl⟩ := HDr.out; exact ⟨_, World.drewN_drewN _ _ _⟩⟩
                  case measure => simp [intOf]; omega
                · have hd : decide ((k : Int) < (no : Int)) = false := by simp; omega
                  obtain rfl : no = k := by omega
                  clear K15 HQ5 HPo5 HQ6 HPo6 hlt hd HDr q0 HXO
                  go_wp2
                  go_loopw [40] (fun i w' => ∃ k : Nat, k ≤ nw ∧ i = .int .i64 (k : Int) ∧ w' = wr) (fun i _ => nw - (intOf i).toNat)
                  case atStart => exact ⟨0, by omega, rfl, rfl⟩
                  case round =>
                    obtain ⟨k, hk, rfl, rfl⟩ := hrel
                    by_cases hlt : k < nw
                    · have hd : decide ((k : Int) < (nw : Int)) = true := by simp; omega
                      have hki : (k : Int) < (nw : Int) := by omega
                      obtain ⟨g, c, e1, a0⟩ := K16.out.rw.at (j := k) (u := .int .u32 1) (by simp [hlt]) (by omega)
                      cases e1
                      clear K16
                      go_wp2
                      go_roundw
                      case rel => exact ⟨k + 1, by omega, by go_num, trivial⟩
                      case measure => simp [intOf]; omega
                    · have hd : decide ((k : Int) < (nw : Int)) = false := by simp; omega
                      obtain rfl : nw = k := by omega
                      clear hlt hd
                      go_wp2
                      go_loopw [41] (fun i w' => ∃ k : Nat, k ≤ nd ∧ i = .int .i64 (k : Int) ∧ w' = wr) (fun i _ => nd - (intOf i).toNat)
                      case atStart => exact ⟨0, by omega, rfl, rfl⟩
                      case round =>
                        obtain ⟨k, hk, rfl, rfl⟩ := hrel
                        by_cases hlt : k < nd
                        · have hd : decide ((k : Int) < (nd : Int)) = true := by simp; omega
                          have hki : (k : Int) < (nd : Int) := by omega
                          obtain ⟨g, c, e1, a0⟩ := K16.out.rn.at (j := k) (u := .string ⟨#[120]⟩) (by simp [hlt]) (by omega)
                          cases e1
                          obtain ⟨g', c', e2, f0⟩ := K16.out.ra.at (j := k) (u := .int .i64 (-1)) (by simp [hlt]) (by omega)
                          cases e2
                          clear K16
                          go_wp2
                          go_roundw
                          case rel => exact ⟨k + 1, by omega, by go_num, trivial⟩
                          case measure => simp [intOf]; omega
                        · have hd : decide ((k : Int) < (nd : Int)) = false := by simp; omega
                          obtain rfl : nd = k := by omega
                          clear hlt hd
                          have HF : Hid (∀ i, i < no → ∃ y, (fillO no A.outs)[i]? = some (99, y)) := hide (by
                            intro i hi
                            rw [← HNo.out] at hi ⊢
                            rw [fillO_all, List.getElem?_map, List.getElem?_eq_getElem hi]
                            exact ⟨_, rfl⟩)
                          go_wp2
                          go_loopw [42] (fun i w' => ∃ k : Nat, k ≤ no ∧ i = .int .i64 (k : Int) ∧ w' = wr) (fun i _ => no - (intOf i).toNat)
                          case atStart => exact ⟨0, by omega, rfl, rfl⟩
                          case round =>
                            obtain ⟨k, hk, rfl, rfl⟩ := hrel
                            have hn2 := HP.out.2.2
                            have q0 := K16.out.kr.rM.get (j := 0) rfl
                            by_cases hlt : k < no
                            · have hd : decide ((k : Int) < (no : Int)) = true := by simp; omega
                              have hki : (k : Int) < (no : Int) := by omega
                              obtain ⟨y, hy⟩ := HF.out k hlt
                              obtain ⟨g, c, e1, a0, _⟩ := K16.out.rm.outs hy (by omega)
                              cases e1
                              have a1 : wr.cell? ⟨g, k * 2, none⟩ = some (.int .i64 99) := a0
                              clear K16 hy a0
                              go_wp2
                              go_roundw
                              case rel => exact ⟨k + 1, by omega, by go_num, trivial⟩
                              case measure => simp [intOf]; omega
                            · have hd : decide ((k : Int) < (no : Int)) = false := by simp; omega
                              obtain rfl : no = k := by omega
                              obtain ⟨gx, cx, e1, x0⟩ := K16.out.rx.at (j := nw) (u := .int .u32 2) (by simp) (by omega)
                              cases e1
                              obtain ⟨gy, cy, e1, y0⟩ := K16.out.ry.at (j := nd) (u := .string ⟨#[121]⟩) (by simp) (by omega)
                              cases e1
                              obtain ⟨gz, cz, e1, z0⟩ := K16.out.rz.at (j := nd) (u := .int .i64 (-2)) (by simp) (by omega)
                              cases e1
                              obtain ⟨gq, cq, e1, q1⟩ := K16.out.ru.at (j := no * 2) (u := .int .i64 98) (by rw [List.getElem?_append_right (by rw [outs_len, ← HNo.out, fillO_all, List.length_map]; omega), outs_len]; rw [show (fillO no A.outs).length = no by rw [← HNo.out, fillO_all, List.length_map]]; simp [outL]) (by omega)
                              cases e1
                              have HBe := hide K16.out.kr.be
                              clear K16 HF hlt
                              go_upto_region 57 with fail
                              clear hd q0
                              have hn2 := HP.out.2.2
                              have m1 : IntKind.i64.wrap (((nw + 1 : Nat) : Int) - 1) = ((nw : Nat) : Int) := by rw [IntKind.wrap_i64]; omega
                              have m2 : IntKind.i64.wrap (((nd + 1 : Nat) : Int) - 1) = ((nd : Nat) : Int) := by rw [IntKind.wrap_i64]; omega
                              have m3 : IntKind.i64.wrap (((no + 1 : Nat) : Int) - 1) = ((no : Nat) : Int) := by rw [IntKind.wrap_i64]; omega
                              have n1' : (nw : Int) < ((nw + 1 : Nat) : Int) := by omega
                              have n2' : (nd : Int) < ((nd + 1 : Nat) : Int) := by omega
                              have n3' : (no : Int) < ((no + 1 : Nat) : Int) := by omega
                              go_wp2
                              go_ret
                              exact ⟨rfl, HBe.out⟩
end Go.Proofs.YtiafodeabdhcoaaGreatDoor
