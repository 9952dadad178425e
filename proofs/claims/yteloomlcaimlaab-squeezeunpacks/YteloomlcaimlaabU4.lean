import Derived.Test.YteloomlcaimlaabU3
namespace Go.Proofs.Yteloomlcaimlaab
open Go.RowKit
section
variable (w : World)
set_option maxRecDepth 100000 in
set_option maxHeartbeats 2000000 in
theorem unpacks_walk (v : Value) (p : List Nat) (hv : Rb w w.heap.size v p) (hy : Bys p) (hl : p.length ≤ 140737488351232) :
    Calls Try.prog 4 #[v] w fun e w' => e = .returned (.bool true) ∧ Below w.heap.size w w' := by
  have HV := hide hv
  have HY := hide hy
  have HL := hide hl
  obtain ⟨ao, cap, rfl, hcap⟩ := hv.len
  obtain ⟨n, hn⟩ : ∃ n, p.length = n := ⟨_, rfl⟩
  have HLn := hide hn
  have HUb := hide (un_bys hy)
  have HUo := hide (fun h => (un_ok (p := p) h).2)
  have HUd := hide (fun h => un_bad (p := p) h)
  rw [hn] at HV hcap hl ⊢
  clear hv hy hn
  have hul : (un p).2.1.length ≤ 140737488351232 := by
    by_cases h : (un p).1 = 0
    · have := HUo.out h; omega
    · have := HUd.out h
      rw [this]; simp
  have HUl := hide hul
  clear hul HUo HUd
  go_enter Try.func4, Try.ntmps4
  go_wp2_with fail
  refine (dup_any w _ p _ HV.out HL.out).mono ?_
  rintro e w1 ⟨r1, rfl, hO1, hb1⟩
  have HO1 := hide hO1
  have HB1 := hide hb1
  have HV1 := hide (HV.out.keep hb1)
  have hs1 := hb1.size
  obtain ⟨a1, k1, c1, rfl, HK1, _⟩ := hO1.len2
  clear hO1 hb1 HV
  go_wp2_with fail
  refine (Unpack_any w1 _ p HO1.out.rb HY.out HL.out).mono ?_
  rintro e w2 ⟨r2, rfl, hO2, hr2, hb2⟩
  have HO2 := hide hO2
  have HB2 := hide (HB1.out.trans (hb2.mono hs1))
  have HV2 := hide (HV1.out.keep (hb2.mono hs1))
  have HO12 := hide (HO1.out.keep hb2 (Nat.le_refl _))
  have hs2 := HB2.out.size
  have HR2 := hide hr2
  obtain ⟨a2, k2, c2, rfl, HK2, _⟩ := hO2.len2
  clear hO2 hb2 HV1 HO1 HB1 hr2
  go_wp2_with fail
  refine (RUnpack_any w2 _ p (HV2.out.mono hs2) HY.out HL.out).mono ?_
  rintro e w3 ⟨r3, rfl, hO3, hr3, hb3⟩
  have HO3 := hide hO3
  have HB3 := hide (HB2.out.trans (hb3.mono hs2))
  have HV3 := hide (HV2.out.keep (hb3.mono hs2))
  have HO13 := hide (HO12.out.keep hb3 (Nat.le_refl _))
  have HO23 := hide (HO2.out.keep hb3 (Nat.le_refl _))
  have hs3 := HB3.out.size
  obtain ⟨a3, k3, c3, rfl, HK3, _⟩ := hO3.len2
  clear hO3 hb3 HV2 HO12 HB2 HO2 hr3
  have HSz := hide (fun W (hW : Rb W W.heap.size (.slice a1 k1 c1) p) => Size_any W _ p hW HY.out HL.out)
  have HTk := hide (fun W (hW : Rb W W.heap.size (.slice a1 k1 c1) p) => Tokens_any W _ p hW HY.out HL.out)
  have HRs := hide (fun W (hW : Rb W W.heap.size (.slice ao n cap) p) => RSize_any W _ p hW HY.out HL.out)
  have HRt := hide (fun W (hW : Rb W W.heap.size (.slice ao n cap) p) => RTokens_any W _ p hW HY.out HL.out)
  obtain ⟨U, hU⟩ : ∃ U, un p = U := ⟨_, rfl⟩
  rw [hU] at HO3 HO23 HR2 HSz HTk HRs HRt HUl HUb ⊢
  clear hU
  obtain ⟨uc, ub, ut⟩ := U
  simp only at HO3 HO23 HR2 HSz HTk HRs HRt HUl HUb ⊢
  have HUl2 : Hid (ub.length ≤ 140737488351232) := HUl
  go_wp2_with fail
  refine (same_true w3 _ _ ub _ _ HO23.out.rb HO3.out.rb HUl2.out).mono ?_
  rintro e w4 ⟨rfl, hb4⟩
  have HB4 := hide (HB3.out.trans (hb4.mono hs3))
  have HV4 := hide (HV3.out.keep (hb4.mono hs3))
  have HO14 := hide (HO13.out.keep hb4 (Nat.le_refl _))
  have hs4 := HB4.out.size
  clear hb4 HV3 HO13 HB3 HO3 HO23
  by_cases hc : uc = 0
  · subst hc
    go_wp2_with fail
    refine (same_true w4 _ _ p _ _ HV4.out HO14.out.rb HL.out).mono ?_
    rintro e w5 ⟨rfl, hb5⟩
    have HB5 := hide (HB4.out.trans (hb5.mono hs4))
    have HV5 := hide (HV4.out.keep (hb5.mono hs4))
    have HO15 := hide (HO14.out.keep hb5 (Nat.le_refl _))
    have hs5 := HB5.out.size
    clear hb5 HV4 HO14 HB4
    go_wp2_with fail
    refine (HSz.out w5 HO15.out.rb).mono ?_
    rintro e w6 ⟨rfl, hb6⟩
    have HB6 := hide (HB5.out.trans (hb6.mono hs5))
    have HV6 := hide (HV5.out.keep (hb6.mono hs5))
    have HO16 := hide (HO15.out.keep hb6 (Nat.le_refl _))
    have hs6 := HB6.out.size
    clear hb6 HV5 HO15 HB5
    go_wp2_with fail
    refine (HTk.out w6 HO16.out.rb).mono ?_
    rintro e w7 ⟨rfl, hb7⟩
    have HB7 := hide (HB6.out.trans (hb7.mono hs6))
    have HV7 := hide (HV6.out.keep (hb7.mono hs6))
    have HO17 := hide (HO16.out.keep hb7 (Nat.le_refl _))
    have hs7 := HB7.out.size
    clear hb7 HV6 HO16 HB6
    go_wp2_with fail
    refine (HRs.out w7 (HV7.out.mono hs7)).mono ?_
    rintro e w8 ⟨rfl, hb8⟩
    have HB8 := hide (HB7.out.trans (hb8.mono hs7))
    have HV8 := hide (HV7.out.keep (hb8.mono hs7))
    have HO18 := hide (HO17.out.keep hb8 (Nat.le_refl _))
    have hs8 := HB8.out.size
    clear hb8 HV7 HO17 HB7
    go_wp2_with fail
    refine (HRt.out w8 (HV8.out.mono hs8)).mono ?_
    rintro e w9 ⟨rfl, hb9⟩
    have HB9 := hide (HB8.out.trans (hb9.mono hs8))
    have HV9 := hide (HV8.out.keep (hb9.mono hs8))
    have HO19 := hide (HO18.out.keep hb9 (Nat.le_refl _))
    have hs9 := HB9.out.size
    clear hb9 HV8 HO18 HB8
    go_wp2_with fail
    refine (same_true w9 _ _ p _ _ HV9.out HO19.out.rb HL.out).mono ?_
    rintro e w10 ⟨rfl, hb10⟩
    have HB10 := hide (HB9.out.trans (hb10.mono hs9))
    clear hb10
    go_wp2
    go_ret
    exact ⟨rfl, HB10.out⟩
  · have hcI : ((uc : Int) == 0) = false := by simp; omega
    have hr := HR2.out hc
    cases hr
    go_wp2_with fail
    refine (same_true w4 _ _ p _ _ HV4.out HO14.out.rb HL.out).mono ?_
    rintro e w5 ⟨rfl, hb5⟩
    have HB5 := hide (HB4.out.trans (hb5.mono hs4))
    have HV5 := hide (HV4.out.keep (hb5.mono hs4))
    have HO15 := hide (HO14.out.keep hb5 (Nat.le_refl _))
    have hs5 := HB5.out.size
    clear hb5 HV4 HO14 HB4
    go_wp2_with fail
    refine (HSz.out w5 HO15.out.rb).mono ?_
    rintro e w6 ⟨rfl, hb6⟩
    have HB6 := hide (HB5.out.trans (hb6.mono hs5))
    have HV6 := hide (HV5.out.keep (hb6.mono hs5))
    have HO16 := hide (HO15.out.keep hb6 (Nat.le_refl _))
    have hs6 := HB6.out.size
    clear hb6 HV5 HO15 HB5
    go_wp2_with fail
    refine (HTk.out w6 HO16.out.rb).mono ?_
    rintro e w7 ⟨rfl, hb7⟩
    have HB7 := hide (HB6.out.trans (hb7.mono hs6))
    have HV7 := hide (HV6.out.keep (hb7.mono hs6))
    have HO17 := hide (HO16.out.keep hb7 (Nat.le_refl _))
    have hs7 := HB7.out.size
    clear hb7 HV6 HO16 HB6
    go_wp2_with fail
    refine (HRs.out w7 (HV7.out.mono hs7)).mono ?_
    rintro e w8 ⟨rfl, hb8⟩
    have HB8 := hide (HB7.out.trans (hb8.mono hs7))
    have HV8 := hide (HV7.out.keep (hb8.mono hs7))
    have HO18 := hide (HO17.out.keep hb8 (Nat.le_refl _))
    have hs8 := HB8.out.size
    clear hb8 HV7 HO17 HB7
    go_wp2_with fail
    refine (HRt.out w8 (HV8.out.mono hs8)).mono ?_
    rintro e w9 ⟨rfl, hb9⟩
    have HB9 := hide (HB8.out.trans (hb9.mono hs8))
    have HV9 := hide (HV8.out.keep (hb9.mono hs8))
    have HO19 := hide (HO18.out.keep hb9 (Nat.le_refl _))
    have hs9 := HB9.out.size
    clear hb9 HV8 HO18 HB8
    go_wp2_with fail
    refine (same_true w9 _ _ p _ _ HV9.out HO19.out.rb HL.out).mono ?_
    rintro e w10 ⟨rfl, hb10⟩
    have HB10 := hide (HB9.out.trans (hb10.mono hs9))
    clear hb10
    go_wp2
    go_ret
    exact ⟨rfl, HB10.out⟩
end
end Go.Proofs.Yteloomlcaimlaab
