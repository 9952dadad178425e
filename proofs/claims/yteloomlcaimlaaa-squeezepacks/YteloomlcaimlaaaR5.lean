import Derived.Test.YteloomlcaimlaaaR4
namespace Go.Proofs.Yteloomlcaimlaaa
open Go.RowKit
section
variable (w : World)
set_option maxRecDepth 100000 in
set_option maxHeartbeats 2000000 in
theorem packs_walk (v : Value) (b : List Nat) (hv : Rb w w.heap.size v b) (hy : Bys b) (hl : b.length ≤ 140737488351232) :
    Calls Try.prog 6 #[v] w fun e w' => e = .returned (.bool true) ∧ Below w.heap.size w w' := by
  have HV := hide hv
  have HY := hide hy
  obtain ⟨ao, cap, rfl, hcap⟩ := hv.len
  obtain ⟨n, hn⟩ : ∃ n, b.length = n := ⟨_, rfl⟩
  have HLn := hide hn
  have HL := hide hl
  rw [hn] at HV hcap ⊢
  clear hv hy hn hl
  go_enter Try.func6, Try.ntmps6
  go_wp2_with fail
  refine (dup_any w _ b _ HV.out HL.out).mono ?_
  rintro e w1 ⟨r1, rfl, hO1, hb1⟩
  have HO1 := hide hO1
  have HB1 := hide hb1
  have HV1 := hide (HV.out.keep hb1)
  have hs1 := hb1.size
  obtain ⟨a1, k1, c1, rfl, HK1, _⟩ := hO1.len2
  clear hO1 hb1 HV
  by_cases h6 : b.length ≤ 65536
  · go_wp2_with fail
    refine (Pack_ok w1 _ b HO1.out.rb HY.out h6).mono ?_
    rintro e w2 ⟨r2, rfl, hO2, hb2⟩
    have HO2 := hide hO2
    have HB2 := hide (HB1.out.trans (hb2.mono hs1))
    have HV2 := hide (HV1.out.keep (hb2.mono hs1))
    have HO12 := hide (HO1.out.keep hb2 (Nat.le_refl _))
    have hs2 := HB2.out.size
    obtain ⟨a2, k2, c2, rfl, HK2, _⟩ := hO2.len2
    clear hO2 hb2 HV1 HO1 HB1
    go_wp2_with fail
    refine (RPack_ok w2 _ b (HV2.out.mono hs2) HY.out h6).mono ?_
    rintro e w3 ⟨r3, rfl, hO3, hb3⟩
    have HO3 := hide hO3
    have HB3 := hide (HB2.out.trans (hb3.mono hs2))
    have HV3 := hide (HV2.out.keep (hb3.mono hs2))
    have HO13 := hide (HO12.out.keep hb3 (Nat.le_refl _))
    have HO23 := hide (HO2.out.keep hb3 (Nat.le_refl _))
    have hs3 := HB3.out.size
    obtain ⟨a3, k3, c3, rfl, HK3, _⟩ := hO3.len2
    clear hO3 hb3 HV2 HO12 HB2 HO2
    go_wp2_with fail
    refine (same_true w3 _ _ (pkd b) _ _ HO23.out.rb HO3.out.rb (by have := pkd_small h6; omega)).mono ?_
    rintro e w4 ⟨rfl, hb4⟩
    have HB4 := hide (HB3.out.trans (hb4.mono hs3))
    have HV4 := hide (HV3.out.keep (hb4.mono hs3))
    have HO14 := hide (HO13.out.keep hb4 (Nat.le_refl _))
    have hs4 := HB4.out.size
    clear hb4 HV3 HO13 HB3 HO3 HO23
    go_wp2_with fail
    refine (same_true w4 _ _ b _ _ HV4.out HO14.out.rb HL.out).mono ?_
    rintro e w5 ⟨rfl, hb5⟩
    have HB5 := hide (HB4.out.trans (hb5.mono hs4))
    clear hb5
    go_wp2
    go_ret
    exact ⟨rfl, HB5.out⟩
  · have hnil := fun W => eq_nil Try.prog W (.none) 0 0 22 5 Try.underlying22
    have HN : Hid (∀ (W : World) (B : Nat), Rb W B (.slice none 0 0) []) := hide (fun W B => .inl ⟨rfl, rfl⟩)
    go_wp2_with fail
    refine (Pack_big w1 _ b _ HO1.out.rb h6).mono ?_
    rintro e w2 ⟨rfl, rfl⟩
    go_wp2_with fail
    refine (RPack_big w2 _ b _ HV1.out h6).mono ?_
    rintro e w3 ⟨rfl, rfl⟩
    go_wp2_with fail
    refine (same_true w3 _ _ [] 0 0 (HN.out _ _) (HN.out _ _) (by simp)).mono ?_
    rintro e w4 ⟨rfl, hb4⟩
    have HB4 := hide (HB1.out.trans (hb4.mono hs1))
    have HV4 := hide (HV1.out.keep (hb4.mono hs1))
    have HO14 := hide (HO1.out.keep hb4 (Nat.le_refl _))
    have hs4 := HB4.out.size
    clear hb4
    go_wp2_with fail
    refine (same_true w4 _ _ b _ _ HV4.out HO14.out.rb HL.out).mono ?_
    rintro e w5 ⟨rfl, hb5⟩
    have HB5 := hide (HB4.out.trans (hb5.mono hs4))
    clear hb5
    go_wp2
    go_ret
    exact ⟨rfl, HB5.out⟩
end
end Go.Proofs.Yteloomlcaimlaaa
