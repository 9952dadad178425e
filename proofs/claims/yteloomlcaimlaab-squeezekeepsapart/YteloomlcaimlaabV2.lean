import Derived.Test.YteloomlcaimlaabV1
namespace Go.Proofs.Yteloomlcaimlaab
open Go.RowKit
section
variable (w : World)
set_option maxRecDepth 100000 in
set_option maxHeartbeats 4000000 in
theorem apart_walk (v : Value) (b : List Nat) (hv : Rb w w.heap.size v b) (hy : Bys b) (hl : b.length ≤ 140737488351232) :
    Calls Try.prog 3 #[v] w fun e w' => e = .returned (.bool true) ∧ Below w.heap.size w w' := by
  have HV := hide hv
  have HY := hide hy
  have HL := hide hl
  obtain ⟨ao, cap, rfl, hcap⟩ := hv.len
  obtain ⟨n, hn⟩ : ∃ n, b.length = n := ⟨_, rfl⟩
  have HLn := hide hn
  rw [hn] at HV hcap hl ⊢
  clear hv hy hn
  by_cases h6 : 65536 < n
  · have h6I : (65536 : Int) < (n : Int) := by omega
    go_enter Try.func3, Try.ntmps3
    go_wp2
    go_ret
    exact ⟨rfl, Below.refl _ _⟩
  have h6I : ¬ (65536 : Int) < (n : Int) := by omega
  have HBl : Hid (b.length ≤ 65536) := hide (by rw [HLn.out]; omega)
  have HPl := hide (pkd_small HBl.out)
  have HPy := hide (pkd_bys HY.out)
  have HP4 := hide (pkd_four b)
  go_enter Try.func3, Try.ntmps3
  -- roomy(b)
  go_wp2_with fail
  refine (roomy_any w _ b _ HV.out (by rw [HLn.out]; omega)).mono ?_
  rw [HLn.out]
  rintro e w1 ⟨gc, cc, rfl, hc1, hgc, hgc1, hb1⟩
  have HC1 := hide hc1
  have HB1 := hide hb1
  have HV1 := hide (HV.out.keep hb1)
  have hs1 := hb1.size
  clear hc1 hb1 HV
  -- Pack(c)
  go_wp2_with fail
  refine (Pack_ok w1 _ b HC1.out.rb HY.out HBl.out).mono ?_
  rintro e w2 ⟨r2, rfl, hO2, hb2⟩
  have HO2 := hide hO2
  have HB2 := hide (HB1.out.trans (hb2.mono hs1))
  have HV2 := hide (HV1.out.keep (hb2.mono hs1))
  have HC2 := hide (HC1.out.keep hb2)
  have hs2 := HB2.out.size
  have hs12 := hb2.size
  obtain ⟨a2, kp, cp2, rfl, HKp, hcp2⟩ := hO2.len2
  have hkp4 : 4 ≤ kp := by have := HP4.out; rw [HKp.out] at this; exact this
  have hkp7 : kp ≤ 70000 := by have := HPl.out; rw [HKp.out] at this; exact this
  obtain ⟨gp, rfl, hgp, hgps⟩ := hO2.some_of (by rw [HKp.out]; omega)
  have hgcp : gc ≠ gp := by omega
  clear hO2 hb2 HV1 HC1 HB1
  -- same(b, c), marks(c)
  go_wp2_with fail
  refine (same_true w2 _ _ b _ _ HV2.out HC2.out.rb HL.out).mono ?_
  rintro e w3 ⟨rfl, hb3⟩
  have HB3 := hide (HB2.out.trans (hb3.mono hs2))
  have HV3 := hide (HV2.out.keep (hb3.mono hs2))
  have HC3 := hide (HC2.out.keep hb3)
  have HO3 := hide (HO2.out.keep hb3 (Nat.le_refl _))
  have hs3 := HB3.out.size
  have hs23 := hb3.size
  clear hb3 HV2 HC2 HO2 HB2
  go_wp2_with fail
  refine (marks_any w3 _ gc n cc b HC3.out (by omega)).mono ?_
  rintro e w3' ⟨rfl, rfl⟩
  have hkpI : ¬ (kp : Int) < 4 := by omega
  -- dup(p)
  go_wp2_with fail
  refine (dup_any w3' _ (pkd b) _ HO3.out.rb (by rw [HKp.out]; omega)).mono ?_
  rintro e w4 ⟨r4, rfl, hO4, hb4⟩
  have HW4 := hide hO4
  have HB4 := hide (HB3.out.trans (hb4.mono hs3))
  have HV4 := hide (HV3.out.keep (hb4.mono hs3))
  have HC4 := hide (HC3.out.keep hb4)
  have HO4 := hide (HO3.out.keep hb4 (Nat.le_refl _))
  have hs4 := HB4.out.size
  have hs34 := hb4.size
  obtain ⟨a4, kw, cw, rfl, HKw, _⟩ := hO4.len2
  obtain rfl : kp = kw := by rw [← HKw.out, ← HKp.out]
  obtain ⟨gw, rfl, hgw, hgws⟩ := hO4.some_of (by rw [HKw.out]; omega)
  have hgwp : gw ≠ gp := by omega
  clear hO4 hb4 HV3 HC3 HO3 HB3
  -- roomy(p)
  go_wp2_with fail
  refine (roomy_any w4 _ (pkd b) _ HO4.out.rb (by rw [HKw.out]; omega)).mono ?_
  rw [HKw.out]
  rintro e w5 ⟨gr, cr, rfl, hr5, hgr, hgr1, hb5⟩
  have HR5 := hide hr5
  have HB5 := hide (HB4.out.trans (hb5.mono hs4))
  have HV5 := hide (HV4.out.keep (hb5.mono hs4))
  have HC5 := hide (HC4.out.keep hb5)
  have HO5 := hide (HO4.out.keep hb5 (Nat.le_refl _))
  have HW5 := hide (HW4.out.keep hb5 (Nat.le_refl _))
  have hs5 := HB5.out.size
  have hs45 := hb5.size
  have hgrp : gr ≠ gp := by omega
  clear hr5 hb5 HV4 HC4 HO4 HB4 HW4
  -- Unpack(r)
  go_wp2_with fail
  refine (Unpack_pkd w5 _ b HR5.out.rb HY.out HBl.out).mono ?_
  rintro e w6 ⟨r6, rfl, hO6, hb6⟩
  have HU6 := hide hO6
  have HB6 := hide (HB5.out.trans (hb6.mono hs5))
  have HV6 := hide (HV5.out.keep (hb6.mono hs5))
  have HC6 := hide (HC5.out.keep hb6)
  have HO6 := hide (HO5.out.keep hb6 (Nat.le_refl _))
  have HW6 := hide (HW5.out.keep hb6 (Nat.le_refl _))
  have HR6 := hide (HR5.out.keep hb6)
  have hs6 := HB6.out.size
  have hs56 := hb6.size
  obtain ⟨ua, uk, uc, rfl, HKu, _⟩ := hO6.len2
  obtain rfl : n = uk := by rw [← HKu.out, ← HLn.out]
  clear hO6 hb6 HV5 HC5 HO5 HB5 HW5 HR5
  go_wp2_with fail
  refine (same_true w6 _ _ b _ _ HU6.out.rb HV6.out HL.out).mono ?_
  rintro e w7 ⟨rfl, hb7⟩
  have HB7 := hide (HB6.out.trans (hb7.mono hs6))
  have HV7 := hide (HV6.out.keep (hb7.mono hs6))
  have HC7 := hide (HC6.out.keep hb7)
  have HO7 := hide (HO6.out.keep hb7 (Nat.le_refl _))
  have HW7 := hide (HW6.out.keep hb7 (Nat.le_refl _))
  have HR7 := hide (HR6.out.keep hb7)
  have HU7 := hide (HU6.out.keep hb7 (Nat.le_refl _))
  have hs7 := HB7.out.size
  have hss7 := hb7.size
  clear hb7 HB6 HV6 HC6 HO6 HW6 HR6 HU6
  go_wp2_with fail
  refine (same_true w7 _ _ (pkd b) _ _ HR7.out.rb HW7.out.rb (by rw [HKw.out]; omega)).mono ?_
  rintro e w8 ⟨rfl, hb8⟩
  have HB8 := hide (HB7.out.trans (hb8.mono hs7))
  have HV8 := hide (HV7.out.keep (hb8.mono hs7))
  have HC8 := hide (HC7.out.keep hb8)
  have HO8 := hide (HO7.out.keep hb8 (Nat.le_refl _))
  have HW8 := hide (HW7.out.keep hb8 (Nat.le_refl _))
  have HR8 := hide (HR7.out.keep hb8)
  have HU8 := hide (HU7.out.keep hb8 (Nat.le_refl _))
  have hs8 := HB8.out.size
  have hss8 := hb8.size
  clear hb8 HB7 HV7 HC7 HO7 HW7 HR7 HU7
  go_wp2_with fail
  refine (marks_any w8 _ gr kp cr (pkd b) HR8.out (by omega)).mono ?_
  rintro e wm8 ⟨rfl, hwm8⟩
  rw [hwm8]
  clear hwm8 wm8
  go_wp2_with fail
  refine (Size_pkd w8 _ b HR8.out.rb HY.out HBl.out).mono ?_
  rintro e w9 ⟨rfl, hb9⟩
  have HB9 := hide (HB8.out.trans (hb9.mono hs8))
  have HV9 := hide (HV8.out.keep (hb9.mono hs8))
  have HC9 := hide (HC8.out.keep hb9)
  have HO9 := hide (HO8.out.keep hb9 (Nat.le_refl _))
  have HW9 := hide (HW8.out.keep hb9 (Nat.le_refl _))
  have HR9 := hide (HR8.out.keep hb9)
  have HU9 := hide (HU8.out.keep hb9 (Nat.le_refl _))
  have hs9 := HB9.out.size
  have hss9 := hb9.size
  clear hb9 HB8 HV8 HC8 HO8 HW8 HR8 HU8
  go_wp2_with fail
  refine (Tokens_pkd w9 _ b HR9.out.rb HY.out HBl.out).mono ?_
  rintro e w10 ⟨rfl, hb10⟩
  have HB10 := hide (HB9.out.trans (hb10.mono hs9))
  have HV10 := hide (HV9.out.keep (hb10.mono hs9))
  have HC10 := hide (HC9.out.keep hb10)
  have HO10 := hide (HO9.out.keep hb10 (Nat.le_refl _))
  have HW10 := hide (HW9.out.keep hb10 (Nat.le_refl _))
  have HR10 := hide (HR9.out.keep hb10)
  have HU10 := hide (HU9.out.keep hb10 (Nat.le_refl _))
  have hs10 := HB10.out.size
  have hss10 := hb10.size
  clear hb10 HB9 HV9 HC9 HO9 HW9 HR9 HU9
  go_wp2_with fail
  refine (same_true w10 _ _ (pkd b) _ _ HR10.out.rb HW10.out.rb (by rw [HKw.out]; omega)).mono ?_
  rintro e w11 ⟨rfl, hb11⟩
  have HB11 := hide (HB10.out.trans (hb11.mono hs10))
  have HV11 := hide (HV10.out.keep (hb11.mono hs10))
  have HC11 := hide (HC10.out.keep hb11)
  have HO11 := hide (HO10.out.keep hb11 (Nat.le_refl _))
  have HW11 := hide (HW10.out.keep hb11 (Nat.le_refl _))
  have HR11 := hide (HR10.out.keep hb11)
  have HU11 := hide (HU10.out.keep hb11 (Nat.le_refl _))
  have hs11 := HB11.out.size
  have hss11 := hb11.size
  clear hb11 HB10 HV10 HC10 HO10 HW10 HR10 HU10
  go_wp2_with fail
  refine (marks_any w11 _ gr kp cr (pkd b) HR11.out (by omega)).mono ?_
  rintro e wm11 ⟨rfl, hwm11⟩
  rw [hwm11]
  clear hwm11 wm11
  have hs5c : w5.heap.size ≤ w11.heap.size := by omega
  go_upto_region 17 with fail
  go_loopw [10] (fun iv wr => ∃ k : Nat, iv = .int .i64 (k : Nat) ∧ k ≤ n ∧ Ow wr w5.heap.size (.slice ua n uc) (inc k b) ∧ Below w5.heap.size w11 wr) (fun iv _ => n - (intOf iv).toNat)
  case atStart => exact ⟨0, rfl, Nat.zero_le _, by rw [inc_zero]; exact HU11.out, Below.refl _ _⟩
  case round =>
  obtain ⟨k, rfl, hk, hUk, hBk⟩ := hrel
  by_cases hkn : k < n
  · have hkI : (k : Int) < (n : Int) := by omega
    obtain ⟨gu, rfl, hgu, _⟩ := hUk.some_of (by rw [inc_len, HLn.out]; omega)
    obtain ⟨d1, d2⟩ := hUk.cell (j := k) (by rw [inc_len, HLn.out]; exact hkn)
    rw [inc_at (by rw [HLn.out]; exact hkn)] at d1
    have hby := HY.out.get k
    have HUk := hide (hUk.set (j := k) (z := (b.getD k 0 + 1) % 256))
    rw [inc_set (by rw [HLn.out]; exact hkn)] at HUk
    generalize b.getD k 0 = cb at *
    obtain ⟨cz, hcz⟩ : ∃ z, (cb + 1) % 256 = z := ⟨_, rfl⟩
    rw [hcz] at HUk
    have hw8 : IntKind.u8.wrap ((cb : Int) + 1) = (cz : Nat) := by simp [IntKind.wrap, IntKind.signed, IntKind.bits]; omega
    have HBk := hide (hBk.setCell (p := ⟨gu, k, none⟩) hgu (.int .u8 (cz : Nat)))
    clear hUk hBk hcz
    go_wp2
    go_roundw
    case rel => exact ⟨k + 1, by go_num, by omega, HUk.out, HBk.out⟩
    case measure => simp [intOf]; omega
  obtain rfl : n = k := by omega
  have hkI : ¬ (n : Int) < (n : Int) := by omega
  generalize wr = w12 at *
  have hb12 := hBk
  have HB12 := hide (HB11.out.trans (hb12.mono hs5))
  have HV12 := hide (HV11.out.keep (hb12.mono hs5))
  have HC12 := hide (HC11.out.lo hb12 (by omega))
  have HO12 := hide (HO11.out.lo hb12 (by omega))
  have HW12 := hide (HW11.out.lo hb12 (by omega))
  have HR12 := hide (HR11.out.lo hb12 (by omega))
  have HU12 := hide hUk
  have hs12 := HB12.out.size
  have hs5d : w5.heap.size ≤ w12.heap.size := Nat.le_trans hs5c hb12.size
  clear hb12 hBk hUk HB11 HV11 HC11 HO11 HW11 HR11 HU11
  go_upto_region 21 with (at_builtin; refine app_three rfl _ _ rfl w5.heap.size _ (inc n b) rfl (HU12.out.alloc _) (by rw [al_size]; omega) _ _ [1] rfl (rb_one _ 1) (by rw [inc_len, HLn.out]; simp; omega) ?_; intro rg w13 hog hgg hkg hblg hrh; obtain ⟨ga, gk, gcap, rfl, HKg, _⟩ := hog.len2)
  have hb13 := ((Below.refl w5.heap.size w12).alloc hs5d (.cells #[.int .u8 ((1 : Nat) : Int)] 5)).trans hkg.1
  have HB13 := hide (HB12.out.trans (hb13.mono hs5))
  have HV13 := hide (HV12.out.keep (hb13.mono hs5))
  have HC13 := hide (HC12.out.lo hb13 (by omega))
  have HO13 := hide (HO12.out.lo hb13 (by omega))
  have HW13 := hide (HW12.out.lo hb13 (by omega))
  have HR13 := hide (HR12.out.lo hb13 (by omega))
  have HG13 := hide hog
  have HUh13 := hide hrh
  have hs13 := HB13.out.size
  have hs5e : w5.heap.size ≤ w13.heap.size := Nat.le_trans hs5d hb13.size
  clear hb13 hog hgg hkg hblg hrh HB12 HV12 HC12 HO12 HW12 HR12 HU12
  go_wp2_with fail
  refine (same_true w13 _ _ (pkd b) _ _ HR13.out.rb HW13.out.rb (by rw [HKw.out]; omega)).mono ?_
  rintro e w14 ⟨rfl, hb14⟩
  have HB14 := hide (HB13.out.trans (hb14.mono hs13))
  have HV14 := hide (HV13.out.keep (hb14.mono hs13))
  have HC14 := hide (HC13.out.keep hb14)
  have HO14 := hide (HO13.out.keep hb14 (Nat.le_refl _))
  have HW14 := hide (HW13.out.keep hb14 (Nat.le_refl _))
  have HR14 := hide (HR13.out.keep hb14)
  have HG14 := hide (HG13.out.keep hb14 (Nat.le_refl _))
  have HUh14 := hide (HUh13.out.keep hb14)
  have hs14 := HB14.out.size
  have hss14 := hb14.size
  clear hb14 HB13 HV13 HC13 HO13 HW13 HR13 HG13 HUh13
  go_wp2_with fail
  refine (marks_any w14 _ gr kp cr (pkd b) HR14.out (by omega)).mono ?_
  rintro e wm14 ⟨rfl, hwm14⟩
  rw [hwm14]
  clear hwm14 wm14
  have hs5f : w5.heap.size ≤ w14.heap.size := by omega
  have hgp5 : gp < w5.heap.size := by omega
  have hwgp : w.heap.size ≤ gp := by omega
  go_upto_region 24 with fail
  go_loopw [12] (fun iv wr => ∃ k : Nat, iv = .int .i64 (k : Nat) ∧ k ≤ kp ∧ Ow wr w1.heap.size (.slice (some ⟨gp, 0, none⟩) kp cp2) (inc k (pkd b)) ∧ w14.grownBy wr (some gp)) (fun iv _ => kp - (intOf iv).toNat)
  case atStart => exact ⟨0, rfl, Nat.zero_le _, by rw [inc_zero]; exact HO14.out, gb_refl _ _⟩
  case round =>
  obtain ⟨k, rfl, hk, hPk, hBk⟩ := hrel
  by_cases hkn : k < kp
  · have hkI : (k : Int) < (kp : Int) := by omega
    obtain ⟨d1, d2⟩ := hPk.cell (j := k) (by rw [inc_len, HKw.out]; exact hkn)
    rw [inc_at (by rw [HKw.out]; exact hkn)] at d1
    have hby := HPy.out.get k
    have HPk := hide (hPk.set (j := k) (z := ((pkd b).getD k 0 + 1) % 256))
    rw [inc_set (by rw [HKw.out]; exact hkn)] at HPk
    generalize (pkd b).getD k 0 = cb at *
    obtain ⟨cz, hcz⟩ : ∃ z, (cb + 1) % 256 = z := ⟨_, rfl⟩
    rw [hcz] at HPk
    have hw8 : IntKind.u8.wrap ((cb : Int) + 1) = (cz : Nat) := by simp [IntKind.wrap, IntKind.signed, IntKind.bits]; omega
    have HBk := hide (gb_trans hBk (gb_set _ gp k (.int .u8 (cz : Nat))))
    clear hPk hBk hcz
    go_wp2
    go_roundw
    case rel => exact ⟨k + 1, by go_num, by omega, HPk.out, HBk.out⟩
    case measure => simp [intOf]; omega
  obtain rfl : kp = k := by omega
  have hkI2 : ¬ (kp : Int) < (kp : Int) := by omega
  generalize wr = w15 at *
  have HB15 := hide (HB14.out.trans (below_gb hBk hwgp hs14))
  have HV15 := hide (HV14.out.keep (below_gb hBk hwgp hs14))
  have HC15 := hide (HC14.out.but hBk hgcp)
  have HW15 := hide (HW14.out.but2 hBk hgwp)
  have HR15 := hide (HR14.out.but hBk hgrp)
  have HG15 := hide (HG14.out.but hBk (Nat.le_refl _) hgp5)
  have HUh15 := hide (HUh14.out.kept hBk hgp5)
  have hs15 := HB15.out.size
  have HP15 := hide hPk
  have hs1g : w1.heap.size ≤ w15.heap.size := by have := hBk.size; omega
  clear hBk hPk HO14 HB14 HV14 HC14 HW14 HR14 HG14 HUh14
  go_upto_region 28 with (at_builtin; refine app_three rfl _ _ rfl w1.heap.size _ (inc kp (pkd b)) rfl (HP15.out.alloc _) (by rw [al_size]; omega) _ _ [2] rfl (rb_one _ 2) (by rw [inc_len, HKw.out]; simp; omega) ?_; intro rh w16 hoh hgh hkh hblh hrhh; obtain ⟨ha, hk', hcap', rfl, HKh, _⟩ := hoh.len2)
  have hgb16 : w15.grownBy w16 (some gp) := gb_trans (gb_below ((Below.refl _ w15).alloc (Nat.le_refl _) (.cells #[.int .u8 ((2 : Nat) : Int)] 5)) _) hgh
  have HB16 := hide (HB15.out.trans (below_gb hgb16 hwgp hs15))
  have HV16 := hide (HV15.out.keep (below_gb hgb16 hwgp hs15))
  have HC16 := hide (HC15.out.but hgb16 hgcp)
  have HW16 := hide (HW15.out.but2 hgb16 hgwp)
  have HR16 := hide (HR15.out.but hgb16 hgrp)
  have HG16 := hide (HG15.out.but hgb16 (Nat.le_refl _) hgp5)
  have HUh16 := hide (HUh15.out.kept hgb16 hgp5)
  have hs16 := HB16.out.size
  have HH16 := hide hoh
  have HPh16 := hide hrhh
  clear hgb16 hoh hgh hkh hblh hrhh HB15 HV15 HC15 HW15 HR15 HG15 HUh15 HP15
  go_wp2_with fail
  refine (Pack_ok w16 _ b HC16.out.rb HY.out HBl.out).mono ?_
  rintro e w17 ⟨rq, rfl, hoq, hb17⟩
  have HQ17 := hide hoq
  obtain ⟨qa, qk, qc, rfl, HKq, _⟩ := hoq.len2
  clear hoq
  have HB17 := hide (HB16.out.trans (hb17.mono hs16))
  have HV17 := hide (HV16.out.keep (hb17.mono hs16))
  have HC17 := hide (HC16.out.keep hb17)
  have HW17 := hide (HW16.out.keep hb17 (Nat.le_refl _))
  have HR17 := hide (HR16.out.keep hb17)
  have HG17 := hide (HG16.out.keep hb17 (Nat.le_refl _))
  have HUh17 := hide (HUh16.out.keep hb17)
  have HH17 := hide (HH16.out.keep hb17 (Nat.le_refl _))
  have HPh17 := hide (HPh16.out.keep hb17)
  have hs17 := HB17.out.size
  have hss17 := hb17.size
  clear hb17 HB16 HV16 HC16 HW16 HR16 HG16 HUh16 HH16 HPh16
  go_wp2_with fail
  refine (Unpack_pkd w17 _ b HW17.out.rb HY.out HBl.out).mono ?_
  rintro e w18 ⟨rv, rfl, hov, hb18⟩
  have HX18 := hide hov
  obtain ⟨xa, xk, xc, rfl, HKx, _⟩ := hov.len2
  clear hov
  have HB18 := hide (HB17.out.trans (hb18.mono hs17))
  have HV18 := hide (HV17.out.keep (hb18.mono hs17))
  have HC18 := hide (HC17.out.keep hb18)
  have HW18 := hide (HW17.out.keep hb18 (Nat.le_refl _))
  have HR18 := hide (HR17.out.keep hb18)
  have HG18 := hide (HG17.out.keep hb18 (Nat.le_refl _))
  have HUh18 := hide (HUh17.out.keep hb18)
  have HH18 := hide (HH17.out.keep hb18 (Nat.le_refl _))
  have HPh18 := hide (HPh17.out.keep hb18)
  have HQ18 := hide (HQ17.out.keep hb18 (Nat.le_refl _))
  have hs18 := HB18.out.size
  have hss18 := hb18.size
  clear hb18 HB17 HV17 HC17 HW17 HR17 HG17 HUh17 HH17 HPh17 HQ17
  go_upto_region 31 with fail
  go_loopw [18] (fun iv wr => ∃ k : Nat, iv = .int .i64 (k : Nat) ∧ k ≤ n ∧ Below w18.heap.size w18 wr) (fun iv _ => n - (intOf iv).toNat)
  case atStart => exact ⟨0, rfl, Nat.zero_le _, Below.refl _ _⟩
  case round =>
  obtain ⟨k, rfl, hk, hBk⟩ := hrel
  by_cases hkn : k < n
  · have hkI : (k : Int) < (n : Int) := by omega
    obtain ⟨xu, rfl, _, du⟩ := HUh18.out.rb.some_of (by rw [inc_len, HLn.out]; omega)
    obtain ⟨xb, rfl, _, db⟩ := HV18.out.some_of (by rw [HLn.out]; omega)
    have d1 := du k (by rw [inc_len, HLn.out]; exact hkn)
    have d2 := db k (by rw [HLn.out]; exact hkn)
    have hinc : (inc n b).getD k 0 = (b.getD k 0 + 1) % 256 := by
      have := inc_all (zs := b) (j := k) (by rw [HLn.out]; exact hkn)
      rwa [HLn.out] at this
    rw [hinc] at d1
    rw [← hBk.cell (World.block_lt_of_cell? w18 _ d1)] at d1
    rw [← hBk.cell (World.block_lt_of_cell? w18 _ d2)] at d2
    have hby := HY.out.get k
    generalize b.getD k 0 = cb at *
    obtain ⟨cz, hcz⟩ : ∃ z, (cb + 1) % 256 = z := ⟨_, rfl⟩
    rw [hcz] at d1
    have hw8 : IntKind.u8.wrap ((cb : Int) + 1) = (cz : Nat) := by simp [IntKind.wrap, IntKind.signed, IntKind.bits]; omega
    have HBk := hide hBk
    clear du db hinc hcz hBk
    go_upto_region 33 with fail
    go_quiet (fail)
    go_wp2
    go_roundw
    case rel => exact ⟨k + 1, by go_num, by omega, HBk.out.trans (drewN_below _ _ _)⟩
    case measure => simp [intOf]; omega
  obtain rfl : n = k := by omega
  have hkI3 : ¬ (n : Int) < (n : Int) := by omega
  generalize wr = w19 at *
  have hb19 := hBk
  clear hBk
  have HB19 := hide (HB18.out.trans (hb19.mono hs18))
  have HV19 := hide (HV18.out.keep (hb19.mono hs18))
  have HC19 := hide (HC18.out.keep hb19)
  have HW19 := hide (HW18.out.keep hb19 (Nat.le_refl _))
  have HR19 := hide (HR18.out.keep hb19)
  have HG19 := hide (HG18.out.keep hb19 (Nat.le_refl _))
  have HUh19 := hide (HUh18.out.keep hb19)
  have HH19 := hide (HH18.out.keep hb19 (Nat.le_refl _))
  have HPh19 := hide (HPh18.out.keep hb19)
  have HQ19 := hide (HQ18.out.keep hb19 (Nat.le_refl _))
  have HX19 := hide (HX18.out.keep hb19 (Nat.le_refl _))
  have hs19 := HB19.out.size
  have hss19 := hb19.size
  clear hb19 HB18 HV18 HC18 HW18 HR18 HG18 HUh18 HH18 HPh18 HQ18 HX18
  go_upto_region 36 with fail
  go_loopw [19] (fun iv wr => ∃ k : Nat, iv = .int .i64 (k : Nat) ∧ k ≤ kp ∧ Below w19.heap.size w19 wr) (fun iv _ => kp - (intOf iv).toNat)
  case atStart => exact ⟨0, rfl, Nat.zero_le _, Below.refl _ _⟩
  case round =>
  obtain ⟨k, rfl, hk, hBk⟩ := hrel
  by_cases hkn : k < kp
  · have hkI : (k : Int) < (kp : Int) := by omega
    obtain ⟨xu, hxu, _, du⟩ := HPh19.out.rb.some_of (by rw [inc_len, HKw.out]; omega)
    cases hxu
    obtain ⟨xb, hxb, _, db⟩ := HW19.out.rb.some_of (by rw [HKw.out]; omega)
    cases hxb
    have d1 := du k (by rw [inc_len, HKw.out]; exact hkn)
    have d2 := db k (by rw [HKw.out]; exact hkn)
    rw [add0] at d1 d2
    have hinc : (inc kp (pkd b)).getD k 0 = ((pkd b).getD k 0 + 1) % 256 := by
      have := inc_all (zs := pkd b) (j := k) (by rw [HKw.out]; exact hkn)
      rwa [HKw.out] at this
    rw [hinc] at d1
    rw [← hBk.cell (World.block_lt_of_cell? w19 _ d1)] at d1
    rw [← hBk.cell (World.block_lt_of_cell? w19 _ d2)] at d2
    have hby := HPy.out.get k
    generalize (pkd b).getD k 0 = cb at *
    obtain ⟨cz, hcz⟩ : ∃ z, (cb + 1) % 256 = z := ⟨_, rfl⟩
    rw [hcz] at d1
    have hw8 : IntKind.u8.wrap ((cb : Int) + 1) = (cz : Nat) := by simp [IntKind.wrap, IntKind.signed, IntKind.bits]; omega
    have HBk := hide hBk
    clear du db hinc hcz hBk
    go_upto_region 38 with fail
    go_quiet (fail)
    go_wp2
    go_roundw
    case rel => exact ⟨k + 1, by go_num, by omega, HBk.out.trans (drewN_below _ _ _)⟩
    case measure => simp [intOf]; omega
  obtain rfl : kp = k := by omega
  have hkI4 : ¬ (kp : Int) < (kp : Int) := by omega
  generalize wr = w20 at *
  have hb20 := hBk
  clear hBk
  have HB20 := hide (HB19.out.trans (hb20.mono hs19))
  have HV20 := hide (HV19.out.keep (hb20.mono hs19))
  have HC20 := hide (HC19.out.keep hb20)
  have HW20 := hide (HW19.out.keep hb20 (Nat.le_refl _))
  have HR20 := hide (HR19.out.keep hb20)
  have HG20 := hide (HG19.out.keep hb20 (Nat.le_refl _))
  have HUh20 := hide (HUh19.out.keep hb20)
  have HH20 := hide (HH19.out.keep hb20 (Nat.le_refl _))
  have HPh20 := hide (HPh19.out.keep hb20)
  have HQ20 := hide (HQ19.out.keep hb20 (Nat.le_refl _))
  have HX20 := hide (HX19.out.keep hb20 (Nat.le_refl _))
  have hs20 := HB20.out.size
  have hss20 := hb20.size
  clear hb20 HB19 HV19 HC19 HW19 HR19 HG19 HUh19 HH19 HPh19 HQ19 HX19
  go_wp2_with fail
  refine (same_true w20 _ _ (pkd b) _ _ HQ20.out.rb HW20.out.rb (by rw [HKw.out]; omega)).mono ?_
  rintro e w21 ⟨rfl, hb21⟩
  have HB21 := hide (HB20.out.trans (hb21.mono hs20))
  have HV21 := hide (HV20.out.keep (hb21.mono hs20))
  have HC21 := hide (HC20.out.keep hb21)
  have HW21 := hide (HW20.out.keep hb21 (Nat.le_refl _))
  have HR21 := hide (HR20.out.keep hb21)
  have HG21 := hide (HG20.out.keep hb21 (Nat.le_refl _))
  have HUh21 := hide (HUh20.out.keep hb21)
  have HH21 := hide (HH20.out.keep hb21 (Nat.le_refl _))
  have HPh21 := hide (HPh20.out.keep hb21)
  have HQ21 := hide (HQ20.out.keep hb21 (Nat.le_refl _))
  have HX21 := hide (HX20.out.keep hb21 (Nat.le_refl _))
  have hs21 := HB21.out.size
  have hss21 := hb21.size
  clear hb21 HB20 HV20 HC20 HW20 HR20 HG20 HUh20 HH20 HPh20 HQ20 HX20
  go_wp2_with fail
  refine (same_true w21 _ _ b _ _ HX21.out.rb HV21.out HL.out).mono ?_
  rintro e w22 ⟨rfl, hb22⟩
  have HB22 := hide (HB21.out.trans (hb22.mono hs21))
  have HV22 := hide (HV21.out.keep (hb22.mono hs21))
  have HC22 := hide (HC21.out.keep hb22)
  have HW22 := hide (HW21.out.keep hb22 (Nat.le_refl _))
  have HR22 := hide (HR21.out.keep hb22)
  have HG22 := hide (HG21.out.keep hb22 (Nat.le_refl _))
  have HUh22 := hide (HUh21.out.keep hb22)
  have HH22 := hide (HH21.out.keep hb22 (Nat.le_refl _))
  have HPh22 := hide (HPh21.out.keep hb22)
  have HQ22 := hide (HQ21.out.keep hb22 (Nat.le_refl _))
  have HX22 := hide (HX21.out.keep hb22 (Nat.le_refl _))
  have hs22 := HB22.out.size
  have hss22 := hb22.size
  clear hb22 HB21 HV21 HC21 HW21 HR21 HG21 HUh21 HH21 HPh21 HQ21 HX21
  go_wp2_with fail
  refine (same_true w22 _ _ b _ _ HC22.out.rb HV22.out HL.out).mono ?_
  rintro e w23 ⟨rfl, hb23⟩
  have HB23 := hide (HB22.out.trans (hb23.mono hs22))
  have HV23 := hide (HV22.out.keep (hb23.mono hs22))
  have HC23 := hide (HC22.out.keep hb23)
  have HW23 := hide (HW22.out.keep hb23 (Nat.le_refl _))
  have HR23 := hide (HR22.out.keep hb23)
  have HG23 := hide (HG22.out.keep hb23 (Nat.le_refl _))
  have HUh23 := hide (HUh22.out.keep hb23)
  have HH23 := hide (HH22.out.keep hb23 (Nat.le_refl _))
  have HPh23 := hide (HPh22.out.keep hb23)
  have HQ23 := hide (HQ22.out.keep hb23 (Nat.le_refl _))
  have HX23 := hide (HX22.out.keep hb23 (Nat.le_refl _))
  have hs23 := HB23.out.size
  have hss23 := hb23.size
  clear hb23 HB22 HV22 HC22 HW22 HR22 HG22 HUh22 HH22 HPh22 HQ22 HX22
  have hgk : gk = n + 1 := by rw [← HKg.out, List.length_append, inc_len, HLn.out]; rfl
  have hhk : hk' = kp + 1 := by rw [← HKh.out, List.length_append, inc_len, HKw.out]; rfl
  obtain ⟨gg, rfl, _, _⟩ := HG23.out.some_of (by rw [HKg.out]; omega)
  obtain ⟨gh, rfl, _, _⟩ := HH23.out.some_of (by rw [HKh.out]; omega)
  have d1 := (HG23.out.cell (j := n) (by rw [HKg.out]; omega)).1
  have d2 := (HH23.out.cell (j := kp) (by rw [HKh.out]; omega)).1
  have e1 : (inc n b ++ [1]).getD n 0 = 1 := by
    have hl' : (inc n b).length = n := by rw [inc_len, HLn.out]
    have := get_app (inc n b) [1] 0
    rwa [Nat.add_zero, hl'] at this
  have e2 : (inc kp (pkd b) ++ [2]).getD kp 0 = 2 := by
    have hl' : (inc kp (pkd b)).length = kp := by rw [inc_len, HKw.out]
    have := get_app (inc kp (pkd b)) [2] 0
    rwa [Nat.add_zero, hl'] at this
  rw [e1] at d1
  rw [e2] at d2
  have x1 : (gk : Int) - 1 = (n : Nat) := by omega
  have x2 : (hk' : Int) - 1 = (kp : Nat) := by omega
  have l1 : (n : Int) < (gk : Int) := by omega
  have l2 : (kp : Int) < (hk' : Int) := by omega
  have hgk2 : gk ≤ 70000 := by omega
  have hhk2 : hk' ≤ 70001 := by omega
  clear e1 e2 hgk hhk
  go_wp2
  go_ret
  exact ⟨rfl, HB23.out⟩
end
end Go.Proofs.Yteloomlcaimlaab
