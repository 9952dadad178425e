import Derived.Test.YtimfgjndgfjjgaaZC
namespace Go.Proofs.Ytimfgjndgfjjgaa
open Go.RowKit Go.Shelf

theorem Rw.shape {n0 : Nat} {w : World} {F : Nat → Prop} {v : Value} {l : List Hd} (h : Rw n0 w F v l) : ∃ a c, v = .slice a l.length c := own_shape h.row
set_option maxRecDepth 16000 in
set_option maxHeartbeats 8000000 in
theorem goneApart_any (W w : World) (F : Nat → Prop) (B : Nat) (bk : List (Option Lst)) (h : Gs W w B F bk (some 7) (cc 0 0 0) (oo true true)) (v : Value) (lg : List Hd) (hr : Rw W.heap.size w F v lg) (n : Nat) (hn : 1 ≤ n ∧ n ≤ 20) (hlg : lg.length = n + 1) :
    Calls Try.prog 24 #[.pointer (some ⟨B, 0, none⟩), v, .int .i64 (n : Int)] w fun e w' => e = .returned (.bool true) ∧ Below W.heap.size W w' := by
  have HG0 := hide h
  obtain ⟨a0, c0, hv0⟩ := hr.shape
  rw [hlg] at hv0
  subst hv0
  have HR0 := hide hr
  have HL0 := hide hlg
  clear h hr hlg
  go_enter Try.func24, Try.ntmps24
  go_wp2_with fail
  refine (HG0.out.mark HR0.out (by have := HL0.out; omega) 500 (by omega) 500 rfl).mono ?_
  rintro e w1 ⟨rfl, l1, hl1, hb1, hG1, hR1, -⟩
  have HG1 := hide hG1
  have HR1 := hide hR1
  have HL1 := hide (And.intro (hl1.trans HL0.out) hb1)
  clear hl1 hb1 hG1 hR1 HG0 HR0
  go_wp2_with fail
  refine (HG1.out.refilled 1 n (by decide) rfl (by simp [cc]; omega) 1 rfl).mono ?_
  rintro e w2 ⟨rfl, F2, bk2, hG2, hE2⟩
  rw [cc_1] at hG2
  have HG2 := hide hG2
  have HR2 := hide (HR1.out.ext hE2)
  clear hG2 hE2 HG1 HR1
  go_wp2_with fail
  refine (HG2.out.revoke 1 (by decide) (fun y hy => by unfold cc; simp [hy])).mono ?_
  rintro e w3 ⟨va, bk3, rfl, hG3, hE3, hA3, -⟩
  rw [cc_zero] at hG3
  have hcn : cc (0 + n) 0 0 1 = n := by simp [cc]
  rw [hcn] at hA3
  obtain ⟨a3, c3, hv3⟩ := hA3.shape
  rw [kidsA_len] at hv3
  subst hv3
  have HG3 := hide hG3
  have HR3 := hide (HR2.out.ext hE3)
  have HA3 := hide hA3
  clear hG3 hE3 hA3 HG2 HR2 hcn
  have HBr := hide (bears_any w3 _ l1 500 HR3.out.held (by have := HL1.out.1; omega) (by have := HL1.out.1; omega) (by omega) HL1.out.2)
  go_wp2_with fail
  refine HBr.out.mono ?_
  rintro e w3' ⟨rfl, rfl⟩
  clear HBr
  go_wp2_with fail
  refine (HG3.out.refilled 1 n (by decide) rfl (by simp [cc]; omega) 1 rfl).mono ?_
  rintro e w4 ⟨rfl, F4, bk4, hG4, hE4⟩
  rw [cc_1] at hG4
  have HG4 := hide hG4
  have HA4 := hide (HA3.out.ext hE4)
  clear hG4 hE4 HG3 HA3 HR3
  go_wp2_with fail
  refine (HG4.out.refilled 2 n (by decide) rfl (by simp [cc]; omega) 2 rfl).mono ?_
  rintro e w5 ⟨rfl, F5, bk5, hG5, hE5⟩
  rw [cc_2] at hG5
  have HG5 := hide hG5
  have HA5 := hide (HA4.out.ext hE5)
  clear hG5 hE5 HG4 HA4
  go_wp2_with fail
  refine (HG5.out.mark HA5.out (by rw [kidsA_len]; omega) 600 (by omega) 600 rfl).mono ?_
  rintro e w6 ⟨rfl, l6, hl6, hb6, hG6, hR6, -⟩
  rw [kidsA_len] at hl6
  have HG6 := hide hG6
  have HA6 := hide hR6
  have HL6 := hide (And.intro hl6 hb6)
  clear hl6 hb6 hG6 hR6 HG5 HA5
  go_wp2_with fail
  refine (HG6.out.shut 1 (by decide) rfl 1 rfl).mono ?_
  rintro e w7 ⟨vc, bk7, rfl, hG7, hE7, hC7, hlo7⟩
  rw [cc_01, oo_1] at hG7
  have hcn : cc (0 + n) (0 + n) 0 1 = n := by simp [cc]
  rw [hcn] at hC7
  obtain ⟨a7, c7, hv7⟩ := hC7.shape
  rw [kidsA_len] at hv7
  subst hv7
  have HNe : Hid (∀ g, (Value.slice a3 n c3).ownBlock = some g → (Value.slice a7 n c7).ownBlock ≠ some g) := hide fun g hg he => by
    have := hlo7 g he
    have := (HA6.out.row.lt g hg).2
    omega
  have HG7 := hide hG7
  have HA7 := hide (HA6.out.ext hE7)
  have HC7 := hide hC7
  clear hG7 hE7 hC7 hlo7 HG6 HA6 hcn
  go_wp2_with fail
  refine (HG7.out.mark HC7.out (by rw [kidsA_len]; omega) 700 (by omega) 700 rfl).mono ?_
  rintro e w8 ⟨rfl, l8, hl8, hb8, hG8, hR8, hgr8⟩
  rw [kidsA_len] at hl8
  have HG8 := hide hG8
  have HC8 := hide hR8
  have HL8 := hide (And.intro hl8 hb8)
  have HA8 := hide (HA7.out.kept hgr8 HNe.out)
  clear hl8 hb8 hG8 hR8 HG7 HC7 HA7 HNe hgr8
  go_wp2_with fail
  refine (HG8.out.shut 2 (by decide) rfl 2 rfl).mono ?_
  rintro e w9 ⟨vd, bk9, rfl, hG9, hE9, hD9, -⟩
  rw [cc_02, oo_2] at hG9
  have hcn : cc 0 (0 + n) 0 2 = n := by simp [cc]
  rw [hcn] at hD9
  obtain ⟨a9, c9, hv9⟩ := hD9.shape
  rw [kidsA_len] at hv9
  subst hv9
  have HG9 := hide hG9
  have HA9 := hide (HA8.out.ext hE9)
  have HC9 := hide (HC8.out.ext hE9)
  clear hG9 hE9 hD9 HG8 HA8 HC8 hcn
  have HBr := hide (bears_any w9 _ l6 600 HA9.out.held (by have := HL6.out.1; omega) (by have := HL6.out.1; omega) (by omega) HL6.out.2)
  have HBr2 := hide (bears_any w9 _ l8 700 HC9.out.held (by have := HL8.out.1; omega) (by have := HL8.out.1; omega) (by omega) HL8.out.2)
  go_wp2_with fail
  refine HBr.out.mono ?_
  rintro e w9' ⟨rfl, rfl⟩
  clear HBr
  go_wp2_with fail
  refine HBr2.out.mono ?_
  rintro e w9' ⟨rfl, rfl⟩
  clear HBr2 HA9 HC9
  go_wp2_with fail
  refine (HG9.out.refilled 3 n (by decide) rfl (by simp [cc]; omega) 3 rfl).mono ?_
  rintro e wa ⟨rfl, Fa, bka, hGa, hEa⟩
  rw [cc_3] at hGa
  have HGa := hide hGa
  clear hGa hEa HG9
  go_wp2_with fail
  refine (HGa.out.purge 3 (by decide) (fun y hy => by unfold cc; simp [hy])).mono ?_
  rintro e wb ⟨vg, bkb, rfl, hGb, hEb, hRb, -⟩
  have hcn : cc 0 0 (0 + n) 3 = n := by simp [cc]
  rw [hcn] at hRb
  obtain ⟨ab, cb, hvb⟩ := hRb.shape
  rw [List.length_cons, kidsA_len] at hvb
  subst hvb
  have HGb := hide hGb
  have HRb := hide hRb
  clear hGb hEb hRb HGa hcn
  go_wp2_with fail
  refine (HGb.out.mark HRb.out (by rw [List.length_cons, kidsA_len]; omega) 800 (by omega) 800 rfl).mono ?_
  rintro e wc ⟨rfl, lc, hlc, hbc, hGc, hRc, -⟩
  rw [List.length_cons, kidsA_len] at hlc
  have HGc := hide hGc
  have HRc := hide hRc
  have HLc := hide (And.intro hlc hbc)
  clear hlc hbc hGc hRc HGb HRb
  go_wp2_with fail
  refine (HGc.out.mint rfl).mono ?_
  rintro e wd ⟨rfl, Fd, bkd, hGd, hEd⟩
  rw [cc_zero] at hGd
  have HGd := hide hGd
  have HRd := hide (HRc.out.ext hEd)
  clear hGd hEd HGc HRc
  go_wp2_with fail
  refine (HGd.out.refilled 3 n (by decide) rfl (by simp [cc]; omega) 3 rfl).mono ?_
  rintro e we ⟨rfl, Fe, bke, hGe, hEe⟩
  rw [cc_3] at hGe
  have HGe := hide hGe
  have HRe := hide (HRd.out.ext hEe)
  clear hGe hEe HGd HRd
  go_wp2_with fail
  refine (HGe.out.purge 3 (by decide) (fun y hy => by unfold cc; simp [hy])).mono ?_
  rintro e wf ⟨vh, bkf, rfl, hGf, hEf, hHf, -⟩
  have hcn : cc 0 0 (0 + n) 3 = n := by simp [cc]
  rw [hcn] at hHf
  have hh := hHf.held
  obtain ⟨af, cf, hvf, hcell⟩ := hh
  rw [List.length_cons, kidsA_len] at hvf
  subst hvf
  obtain ⟨gf, rfl, _, _, q1, _⟩ := hcell 0 (by simp)
  have q1' : wf.cell? ⟨gf, 1, none⟩ = some (.int .i64 0) := by simpa using q1
  have HBel := hide hGf.bel
  have HRf := hide (HRe.out.ext hEf)
  have HBr := hide (bears_any wf _ lc 800 HRf.out.held (by have := HLc.out.1; omega) (by have := HLc.out.1; omega) (by omega) HLc.out.2)
  clear hGf hEf hHf hcell q1 HGe HRe HRf hcn
  go_wp2_with fail
  refine HBr.out.mono ?_
  rintro e wf' ⟨rfl, rfl⟩
  clear HBr
  go_wp2
  go_ret
  exact ⟨rfl, HBel.out⟩
end Go.Proofs.Ytimfgjndgfjjgaa
