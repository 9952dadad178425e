import Derived.Test.YteloomlcaimlaaaG1
namespace Go.Proofs.Yteloomlcaimlaaa
open Go.RowKit
section
variable (w : World)
set_option maxRecDepth 100000 in
set_option maxHeartbeats 2000000 in
theorem gives_walk (v : Value) (b : List Nat) (at0 : Int) (x : Nat) (hv : Rb w w.heap.size v b) (hy : Bys b) (hl : b.length ≤ 140737488351232) (_ha : -9223372036854775808 ≤ at0) (_ha' : at0 ≤ 9223372036854775807) (hx : x < 256) :
    Calls Try.prog 7 #[v, .int .i64 at0, .int .u8 (x : Nat)] w fun e w' => e = .returned (.bool true) ∧ Below w.heap.size w w' := by
  have HV := hide hv
  have HY := hide hy
  obtain ⟨ao, cap, rfl, hcap⟩ := hv.len
  obtain ⟨n, hn⟩ : ∃ n, b.length = n := ⟨_, rfl⟩
  have HLn := hide hn
  rw [hn] at hl HV hcap ⊢
  clear hv hy hn
  by_cases h6 : 65536 < n
  · have h6I : (65536 : Int) < (n : Int) := by omega
    go_enter Try.func7, Try.ntmps7
    go_wp2
    go_ret
    exact ⟨rfl, Below.refl _ _⟩
  have h6I : ¬ (65536 : Int) < (n : Int) := by omega
  have hbl : b.length ≤ 65536 := by rw [HLn.out]; omega
  have HBl := hide hbl
  clear hbl
  go_enter Try.func7, Try.ntmps7
  go_wp2_with fail
  refine (Pack_ok w _ b HV.out HY.out HBl.out).mono ?_
  rintro e w1 ⟨r1, rfl, hO1, hb1⟩
  have HO1 := hide hO1
  have HB1 := hide hb1
  have HV1 := hide (HV.out.keep hb1)
  have hs1 := hb1.size
  obtain ⟨a1, k1, c1, rfl, HK1, _⟩ := hO1.len2
  have hk4 : 4 ≤ k1 := by have := pkd_four b; rw [HK1.out] at this; exact this
  have hk7 : k1 ≤ 70000 := by have := pkd_small HBl.out; rw [HK1.out] at this; exact this
  clear hO1 hb1 HV
  go_wp2_with fail
  refine (Unpack_pkd w1 _ b HO1.out.rb HY.out HBl.out).mono ?_
  rintro e w2 ⟨r2, rfl, hO2, hb2⟩
  have HO2 := hide hO2
  have HB2 := hide (HB1.out.trans (hb2.mono hs1))
  have HV2 := hide (HV1.out.keep (hb2.mono hs1))
  have HO12 := hide (HO1.out.keep hb2 (Nat.le_refl _))
  have hs2 := HB2.out.size
  have hs12 := hb2.size
  obtain ⟨a2, k2, c2, rfl, HK2, _⟩ := hO2.len2
  clear hO2 hb2 HV1 HO1 HB1
  go_wp2_with fail
  refine (Size_pkd w2 _ b HO12.out.rb HY.out HBl.out).mono ?_
  rintro e w3 ⟨rfl, hb3⟩
  rw [HLn.out]
  have HO3 := hide (HO2.out.keep hb3 (Nat.le_refl _))
  have HB3 := hide (HB2.out.trans (hb3.mono hs2))
  have HV3 := hide (HV2.out.keep (hb3.mono hs2))
  have HO13 := hide (HO12.out.keep hb3 (Nat.le_refl _))
  have hs3 := HB3.out.size
  clear hb3 HV2 HO12 HB2 HO2
  go_wp2_with fail
  refine (same_true w3 _ _ b _ _ HO3.out.rb HV3.out (by rw [HLn.out]; exact hl)).mono ?_
  rintro e w4 ⟨rfl, hb4⟩
  have HB4 := hide (HB3.out.trans (hb4.mono hs3))
  have HV4 := hide (HV3.out.keep (hb4.mono hs3))
  have HO14 := hide (HO13.out.keep hb4 (Nat.le_refl _))
  have hs4 := HB4.out.size
  clear hb4 HV3 HO13 HB3 HO3
  obtain ⟨j0, hj0⟩ : ∃ j : Nat, at0 % 65536 = (j : Int) := ⟨(at0 % 65536).toNat, by omega⟩
  have hand : bits .and .i64 at0 65535 = (j0 : Nat) := by rw [i64_and65535]; exact hj0
  go_wp2_with fail
  refine (dup_any w4 _ (pkd b) _ HO14.out.rb (by rw [HK1.out]; omega)).mono ?_
  rintro e w5 ⟨r5, rfl, hO5, hb5⟩
  have HB5 := hide (HB4.out.trans (hb5.mono hs4))
  have HV5 := hide (HV4.out.keep (hb5.mono hs4))
  have hs5 := HB5.out.size
  obtain ⟨a5, k5, c5, rfl, HK5, hc5⟩ := hO5.len2
  obtain rfl : k5 = k1 := by rw [← HK5.out, ← HK1.out]
  obtain ⟨g5, rfl, hg5, _⟩ := hO5.some_of (by rw [HK1.out]; omega)
  obtain ⟨i, hi⟩ : ∃ i, j0 % k5 = i := ⟨_, rfl⟩
  have hik : i < k5 := by rw [← hi]; exact Nat.mod_lt _ (by omega)
  obtain ⟨q1, q2⟩ := hO5.cell (j := i) (by rw [HK1.out]; exact hik)
  have HC := hide (pkd_bys HY.out)
  have hcb := HC.out.get i
  obtain ⟨z, hz⟩ : ∃ z, (pkd b).getD i 0 ^^^ x = z := ⟨_, rfl⟩
  have hxor : bits .xor .u8 (((pkd b).getD i 0 : Nat) : Int) (x : Int) = (z : Nat) := by rw [u8_xor_nat _ _ hcb hx, hz]
  have htm : (j0 : Int).tmod (k5 : Int) = (i : Nat) := by rw [← hi]; exact (Int.ofNat_tmod j0 k5).symm ▸ rfl
  have HO5 := hide (hO5.set (j := i) (z := z))
  have HQz : Hid (x = 0 → (pkd b).set i z = pkd b) := hide (fun h => by
    rw [← hz, h, Nat.xor_zero]; exact set_self)
  have HQn : Hid (x ≠ 0 → (pkd b).set i z ≠ pkd b) := hide (fun h => by
    apply set_ne (by rw [HK1.out]; exact hik)
    rw [← hz]
    exact xor_ne h)
  have HZ2 : Hid (z < 256) := hide (by rw [← hz]; exact xor_lt8 hcb hx)
  have hikI : (i : Int) < (k5 : Int) := by omega
  clear hO5 hb5 HV4 HB4 HO14 hz hi
  generalize (pkd b).getD i 0 = c at *
  go_upto_region 12 with fail
  go_region
  have HO6 : Hid (Ow (w5.setCell ⟨g5, i, none⟩ (.int .u8 (z : Nat))).drew w4.heap.size (.slice (some ⟨g5, 0, none⟩) k5 c5) ((pkd b).set i z)) := hide HO5.out
  have hb6 : Below w.heap.size w (w5.setCell ⟨g5, i, none⟩ (.int .u8 (z : Nat))).drew := (HB5.out.setCell (p := ⟨g5, i, none⟩) (Nat.le_trans hs4 hg5) _).drew
  have HV6 : Hid (Rb (w5.setCell ⟨g5, i, none⟩ (.int .u8 (z : Nat))).drew w.heap.size (.slice ao n cap) b) := hide (HV5.out.keep (((Below.refl w.heap.size w5).setCell (p := ⟨g5, i, none⟩) (Nat.le_trans hs4 hg5) _).drew))
  have HB6 := hide hb6
  have hs6 := hb6.size
  clear HO5 HB5 HV5 q1 q2 hxor htm hand hb6
  generalize (w5.setCell ⟨g5, i, none⟩ (.int .u8 (z : Nat))).drew = w6 at *
  have HQb := hide (bys_set (i := i) HC.out HZ2.out)
  have hql : ((pkd b).set i z).length = k5 := by rw [List.length_set, HK1.out]
  obtain ⟨q, hq⟩ : ∃ q, (pkd b).set i z = q := ⟨_, rfl⟩
  rw [hq] at HO6 HQb HQz HQn hql
  clear hq
  go_wp2_with fail
  refine (Unpack_any w6 _ q HO6.out.rb HQb.out (by rw [hql]; omega)).mono ?_
  rintro e w7 ⟨r7, rfl, hO7, hr7, hb7⟩
  have HO67 := hide (HO6.out.keep hb7 (Nat.le_refl _))
  have HB7 := hide (HB6.out.trans (hb7.mono hs6))
  have HV7 := hide (HV6.out.keep (hb7.mono hs6))
  have hs7 := HB7.out.size
  have HUo := hide (fun h => un_ok (p := q) h)
  have HUb := hide (un_bys HQb.out)
  clear hb7 HO6 HB6 HV6
  by_cases hx0 : x = 0
  · have hq := HQz.out hx0
    subst hq
    rw [un_pkd HBl.out] at hO7 ⊢
    have HO7 := hide hO7
    obtain ⟨a7, k7, c7, rfl, HK7, _⟩ := hO7.len2
    subst hx0
    clear hO7 hr7 HUo HUb
    go_wp2_with fail
    refine (same_true w7 _ _ b _ _ HO7.out.rb HV7.out (by rw [HLn.out]; exact hl)).mono ?_
    rintro e w8 ⟨rfl, hb8⟩
    have HB8 := hide (HB7.out.trans (hb8.mono hs7))
    clear hb8
    go_wp2
    go_ret
    exact ⟨rfl, HB8.out⟩
  · have hxI : ((x : Int) == 0) = false := by simp; omega
    have HQn2 := hide (HQn.out hx0)
    obtain ⟨U, hU⟩ : ∃ U, un q = U := ⟨_, rfl⟩
    rw [hU] at hO7 hr7 HUo HUb ⊢
    clear hU HQz HQn
    obtain ⟨uc, ub, ut⟩ := U
    simp only at hO7 hr7 HUo HUb
    by_cases hc : uc = 0
    · have HUo2 := hide (HUo.out hc)
      have HUb2 := HUb
      subst hc
      have HO7 := hide hO7
      obtain ⟨a7, k7, c7, rfl, HK7, _⟩ := hO7.len2
      clear hO7 hr7 HUo
      go_wp2_with fail
      refine (Pack_ok w7 _ ub HO7.out.rb HUb2.out HUo2.out.2).mono ?_
      rintro e w8 ⟨r8, rfl, hO8, hb8⟩
      rw [HUo2.out.1] at hO8
      have HO8 := hide hO8
      have HB8 := hide (HB7.out.trans (hb8.mono hs7))
      have HV8 := hide (HV7.out.keep (hb8.mono hs7))
      have HO78 := hide (HO7.out.keep hb8 (Nat.le_refl _))
      have HO68 := hide (HO67.out.keep hb8 (Nat.le_refl _))
      have hs8 := HB8.out.size
      obtain ⟨a8, k8, c8, rfl, HK8, _⟩ := hO8.len2
      clear hO8 hb8 HB7 HV7 HO7 HO67
      have hub : ub.length ≤ 140737488351232 := by have := HUo2.out.2; omega
      have HN : Hid (ub ≠ b) := hide (fun e => HQn2.out (by rw [← HUo2.out.1, e]))
      go_wp2_with fail
      refine (same_any w8 _ _ ub b _ _ HO78.out.rb HV8.out hub).mono ?_
      rw [decide_eq_false HN.out]
      rintro e w9 ⟨rfl, hb9⟩
      have HB9 := hide (HB8.out.trans (hb9.mono hs8))
      have HO89 := hide (HO8.out.keep hb9 (Nat.le_refl _))
      have HO69 := hide (HO68.out.keep hb9 (Nat.le_refl _))
      have hs9 := HB9.out.size
      clear hb9 HB8 HV8 HO78 HO8 HO68
      go_wp2_with fail
      refine (same_true w9 _ _ q _ _ HO89.out.rb HO69.out.rb (by rw [hql]; omega)).mono ?_
      rintro e w10 ⟨rfl, hb10⟩
      have HB10 := hide (HB9.out.trans (hb10.mono hs9))
      clear hb10
      go_wp2
      go_ret
      exact ⟨rfl, HB10.out⟩
    · obtain rfl := hr7 hc
      have hcI : ((uc : Int) == 0) = false := by simp; omega
      clear hO7 hr7 HUo HUb
      have hnil := fun W => eq_nil Try.prog W (.none) 0 0 22 5 Try.underlying22
      go_wp2
      go_ret
      exact ⟨rfl, HB7.out⟩
end
end Go.Proofs.Yteloomlcaimlaaa
