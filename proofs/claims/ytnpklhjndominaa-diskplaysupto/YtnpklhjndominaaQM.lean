import Derived.Test.YtnpklhjndominaaQL
namespace Go.Proofs.Ytnpklhjndominaa
open Go.RowKit

section
variable {w wr : World} {R : Asn}
theorem Sys.swap3 {A B C E : Asn} (h : Sys w wr (star A (star B (star C (star E R))))) : Sys w wr (star A (star B (star E (star C R)))) := h.mono (fun _ _ => star_mono (fun _ _ => star_mono (fun _ _ => star_swap)))
theorem Sys.start (w : World) : Sys w w emp := ⟨fun _ => False, fun _ h => h, fun _ h => h.elim, Below.refl _ _⟩
theorem Sys.more1 {B Q n : Nat} (h : Sys w wr (star (PrA B Q n) R)) : Sys w wr (star (PrA B Q (n + 1)) R) := h.mono (fun _ _ => star_fst2 (fun _ _ => PrA.more))
theorem Sys.drop3 {A B C : Asn} (h : Sys w wr (star A (star B (star C R)))) : Sys w wr (star A (star B R)) := h.swap2.swap.drop
end
set_option maxRecDepth 100000 in
set_option maxHeartbeats 6400000 in
theorem plays_walk (a : Option Addr) (len cap : Nat) (Z : Nat → Opr) (w : World) (hl : len ≤ 1048576) (hZ : IsOps w a len Z) :
    Calls Try.prog 3 #[.slice a len cap] w fun e w' => e = .returned (.bool true) ∧ Below w.heap.size w w' := by
  have HZ := hide hZ
  clear hZ
  go_enter Try.func3, Try.ntmps3
  go_wp2_with fail
  refine (new_any w).mono ?_
  rintro e w1 ⟨rfl, hd1, hx1⟩
  have HS1 := hide ((Sys.start w).new good_emp hd1 (fun b hb => by rw [hb]; exact Nat.le_refl _) hx1)
  generalize w.heap.size = Ba at hd1 HS1 ⊢
  clear hd1 hx1
  go_wp2_with fail
  refine (new_any w1).mono ?_
  rintro e w2 ⟨rfl, hd2, hx2⟩
  have HS2 := hide (HS1.out.new ((good_dk _ _).star good_emp) hd2 (fun b hb => by rw [hb]; exact Nat.le_refl _) hx2)
  generalize w1.heap.size = Bb at hd2 HS2 ⊢
  clear hd2 hx2 HS1
  go_wp2_with fail
  refine (newR_any w2).mono ?_
  rintro e w3 ⟨rfl, hd3, hx3⟩
  have HS3 := hide (HS2.out.new ((good_dk _ _).star ((good_dk _ _).star good_emp)) hd3 (fun b hb => by rw [hb]; exact Nat.le_refl _) hx3)
  generalize w2.heap.size = Ra at hd3 HS3 ⊢
  clear hd3 hx3 HS2
  go_wp2_with fail
  refine (newR_any w3).mono ?_
  rintro e w4 ⟨rfl, hd4, hx4⟩
  have HS4 := hide (HS3.out.new ((good_rk _ _ _).star ((good_dk _ _).star ((good_dk _ _).star good_emp))) hd4 (fun b hb => by rw [hb]; exact Nat.le_refl _) hx4)
  generalize w3.heap.size = Rb at hd4 HS4 ⊢
  clear hd4 hx4 HS3
  have HS5 : Hid (Sys w w4 (star (PrA Ba Ra 0) (star (PrA Bb Rb 0) emp))) := hide ((((HS4.out.swap3.swap2.swap.swap2.shut (n := 0) (by simp [D0]) (by simp [D0])).swap2.swap.swap2).shut (n := 0) (by simp [D0]) (by simp [D0])).swap)
  clear HS4
  go_wp2
  go_loopw [3, 4, 5, 6, 7] (fun va vb vra vrb i wr => ∃ k : Nat, k ≤ len ∧ i = .int .i64 (k : Int) ∧ ∃ B1 B2 R1 R2, va = dp B1 ∧ vb = dp B2 ∧ vra = tp R1 ∧ vrb = tp R2 ∧ Hid (Sys w wr (star (PrA B1 R1 k) (star (PrA B2 R2 k) emp)))) (fun _ _ _ _ i _ => len - (intOf i).toNat)
  case atStart => exact ⟨0, by omega, rfl, _, _, _, _, rfl, rfl, rfl, rfl, HS5⟩
  case round =>
  clear HS5
  obtain ⟨k, hk, rfl, B1, B2, R1, R2, rfl, rfl, rfl, rfl, KS⟩ := hrel
  by_cases hlt : k < len
  · have hd : decide ((k : Int) < (len : Int)) = true := by simp; omega
    have hki : (k : Int) < (len : Int) := by omega
    obtain ⟨x, hx, hop⟩ := HZ.out k hlt
    subst hx
    have hopr := hop.below KS.out.bel (Nat.le_refl _)
    have hin : OpIn w (Z k) := ⟨hop.rd, hop.by8, hop.rb, hop.zl, hop.kl, hop.s1, hop.a1, hop.ft⟩
    have HG2 : Hid (∀ B R n, Good (star (PrA B R n) emp)) := hide (fun B R n => (good_pr B R n).star good_emp)
    have S1 := KS.out.box ((good_pr _ _ _).star (HG2.out _ _ _)) (Z k)
    have e0 := hopr.c0
    have e1 := far_cell (by omega) hopr.c1
    have e2 := far_cell (by omega) hopr.c2
    have e3 := far_cell (by omega) hopr.c3
    have e4 := far_cell (by omega) hopr.c4
    have e5 := far_cell (by omega) hopr.c5
    have e6 := far_cell (by omega) hopr.c6
    obtain ⟨ad, cd, hdd⟩ := hop.rd.len
    obtain ⟨ak, ck, hkk⟩ := hop.rb.len
    generalize Z k = o at e0 e1 e2 e3 e4 e5 e6 S1 hin hdd hkk
    clear hop hopr KS
    have HIn := hide hin
    obtain ⟨kind, two, sec, at', data, zs, fill, keep, ks⟩ := o
    simp only at hdd hkk S1 e0 e1 e2 e3 e4 e5 e6
    subst hdd hkk
    have HS1 := hide S1
    obtain ⟨c0, c1, c2, c3, c4, c5, c6⟩ := S1.cells
    simp only at c0 c1 c2 c3 c4 c5 c6
    clear S1 hin
    go_upto_region 11 with fail
    generalize wr.alloc (.cells #[.int .i64 kind, .bool two, .int .i64 sec, .int .i64 at', .slice ad zs.length cd, .bool fill, .slice ak ks.length ck] 30) = w1 at *
    generalize wr.heap.size = G at *
    clear e0 e1 e2 e3 e4 e5 e6
    have HGB : Hid (∀ B R n, Good (star (BoxA G ⟨kind, two, sec, at', .slice ad zs.length cd, zs, fill, .slice ak ks.length ck, ks⟩) (star (PrA B R n) emp))) := hide (fun B R n => (good_box _ _).star (HG2.out B R n))
    by_cases k11 : kind = 11
    · have h11 : (kind == 11) = true := by simp [k11]
      clear k11
      go_wp2_with fail
      refine (new_any w1).mono ?_
      rintro e w2 ⟨rfl, hd2, hx2⟩
      have HS2 := hide (HS1.out.new ((good_box _ _).star ((good_pr _ _ _).star (HG2.out _ _ _))) hd2 (fun b hb => by rw [hb]; exact Nat.le_refl _) hx2)
      generalize w1.heap.size = B3 at hd2 HS2 ⊢
      obtain ⟨_, c1', _, _, _, _, _⟩ := HS2.out.drop.cells
      simp only at c1'
      clear hd2 hx2 c0 c1 c2 c3 c4 c5 c6
      cases two
      · go_wp2_with fail
        refine (newR_any w2).mono ?_
        rintro e w3 ⟨rfl, hd3, hx3⟩
        have HS3 := hide ((HS2.out.new ((good_dk _ _).star ((good_box _ _).star ((good_pr _ _ _).star (HG2.out _ _ _)))) hd3 (fun b hb => by rw [hb]; exact Nat.le_refl _) hx3).swap.shut (n := k + 1) (by simp [D0]) (by simp [D0]))
        generalize w2.heap.size = R3 at hd3 HS3 ⊢
        have HSE : Hid (Sys w w3 (star (PrA B3 R3 (k + 1)) (star (PrA B2 R2 (k + 1)) emp))) := hide (HS3.out.swap.drop.swap.drop.swap.more1.swap)
        clear hd3 hx3 HS2 HS3 c1'
        go_wp2
        go_roundw
        case rel => first | exact ⟨k + 1, by omega, by go_num, _, _, _, _, rfl, rfl, rfl, rfl, HSE⟩ | ((repeat apply Exists.intro); refine ⟨?_, rfl⟩; exact ⟨k + 1, by omega, by go_num, _, _, _, _, rfl, rfl, rfl, rfl, HSE⟩)
        case measure => simp [intOf]; omega
      · go_wp2_with fail
        refine (newR_any w2).mono ?_
        rintro e w3 ⟨rfl, hd3, hx3⟩
        have HS3 := hide ((HS2.out.new ((good_dk _ _).star ((good_box _ _).star ((good_pr _ _ _).star (HG2.out _ _ _)))) hd3 (fun b hb => by rw [hb]; exact Nat.le_refl _) hx3).swap.shut (n := k + 1) (by simp [D0]) (by simp [D0]))
        generalize w2.heap.size = R3 at hd3 HS3 ⊢
        have HSE : Hid (Sys w w3 (star (PrA B1 R1 (k + 1)) (star (PrA B3 R3 (k + 1)) emp))) := hide (HS3.out.swap.drop.drop3.swap.more1)
        clear hd3 hx3 HS2 HS3 c1'
        go_wp2
        go_roundw
        case rel => first | exact ⟨k + 1, by omega, by go_num, _, _, _, _, rfl, rfl, rfl, rfl, HSE⟩ | ((repeat apply Exists.intro); refine ⟨?_, rfl⟩; exact ⟨k + 1, by omega, by go_num, _, _, _, _, rfl, rfl, rfl, rfl, HSE⟩)
        case measure => simp [intOf]; omega
    · have h11 : (kind == 11) = false := by rw [beq_eq_false_iff_ne]; exact k11
      clear k11
      by_cases k13 : kind = 13
      · have h13 : (kind == 13) = true := by simp [k13]
        clear k13
        cases two
        · obtain ⟨D, N, hSo, hb1, hb2⟩ := HS1.out.swap2.swap.open
          have hgo : Good (star (DkA B2 D) (star (RkA R2 D N) (star (BoxA G ⟨kind, false, sec, at', .slice ad zs.length cd, zs, fill, .slice ak ks.length ck, ks⟩) (star (PrA B1 R1 k) emp)))) := (good_dk _ _).star ((good_rk _ _ _).star (HGB.out _ _ _))
          have HSo := hide hSo
          have HGo := hide hgo
          have HBn := hide (And.intro hb1 hb2)
          have hOk : D.Ok := by obtain ⟨F1, h1⟩ := hSo.head; exact h1.ok
          have HOk := hide hOk
          obtain ⟨F1, hdk⟩ := hSo.head
          have HM1 := hide (medium_any hdk)
          have hNb : N ≤ 2000000 := by omega
          clear hdk hSo hgo hb1 hb2 hOk
          go_wp2_with fail
          refine HM1.out.mono ?_
          rintro e w2 ⟨r1, cur1, rfl, hr1, hm1, hx1⟩
          have hO1 := ow_flt hr1 hm1 HOk.out.m
          have HS2 := hide (HSo.out.below HGo.out hx1)
          have HF1 := hide (of_row hO1 (flt_len (fun s hs => (HOk.out.m s hs).1)) (flt_lt HOk.out.m))
          clear hr1 hm1 hx1 hO1 HM1
          go_wp2_with fail
          refine HF1.out.mono ?_
          rintro e w3 ⟨rfl, hd3, hx3⟩
          have HS3 := hide (HS2.out.new HGo.out hd3 (fun b hb => by rw [hb]; exact Nat.le_refl _) hx3)
          generalize w2.heap.size = B3 at hd3 HS3 ⊢
          obtain ⟨F4, hrk⟩ := HS3.out.drop.drop.head
          have HM2 := hide (mediumR_any hrk (by omega))
          have HG3 : Hid (Good (star (DkA B3 (cln (sct (flt D.M 1024)) 0)) (star (DkA B2 D) (star (RkA R2 D N) (star (BoxA G ⟨kind, false, sec, at', .slice ad zs.length cd, zs, fill, .slice ak ks.length ck, ks⟩) (star (PrA B1 R1 k) emp)))))) := hide ((good_dk _ _).star HGo.out)
          clear hrk hd3 hx3 HS2 HF1
          go_wp2_with fail
          refine HM2.out.mono ?_
          rintro e w4 ⟨r2, cur2, rfl, hr2, hm2, hx4⟩
          have hO2 := ow_flt hr2 hm2 HOk.out.m
          have HS4 := hide (HS3.out.below HG3.out hx4)
          have HF2 := hide (ofR_rd hO2.rd (flt_len (fun s hs => (HOk.out.m s hs).1)) (flt_lt HOk.out.m) (fun y n c hy => by
            obtain ⟨_, ⟨h0, _⟩ | ⟨g, cp, cur, hv, _, _, hnc, _⟩⟩ := hO2
            · rw [hy] at h0; cases h0
            · rw [hy] at hv; cases hv; exact hnc))
          clear hr2 hm2 hx4 hO2 HM2 HS3
          go_wp2_with fail
          refine HF2.out.mono ?_
          rintro e w5 ⟨rfl, F5, hr5, hF5, hx5⟩
          have HS5 := hide (HS4.out.new HG3.out hr5 hF5 hx5)
          generalize w4.heap.size = R3 at hr5 HS5 ⊢
          have HS6 := hide ((HS5.out.swap.shut (n := k + 1) (by simp [cln]) (by simp [cln])).swap.swap2)
          have HS7 := hide (HS6.out.shut (n := k + 1) (by have := HBn.out.1; omega) (by have := HBn.out.2; omega))
          have HSE : Hid (Sys w w5 (star (PrA B3 R3 (k + 1)) (star (PrA B2 R2 (k + 1)) emp))) := hide (HS7.out.swap2.swap.drop.drop3.swap)
          clear hr5 hF5 hx5 HF2 HS4 HS5 HS6 HS7 HSo HS1 c0 c1 c2 c3 c4 c5 c6
          go_wp2
          go_roundw
          case rel => first | exact ⟨k + 1, by omega, by go_num, _, _, _, _, rfl, rfl, rfl, rfl, HSE⟩ | ((repeat apply Exists.intro); refine ⟨?_, rfl⟩; exact ⟨k + 1, by omega, by go_num, _, _, _, _, rfl, rfl, rfl, rfl, HSE⟩)
          case measure => simp [intOf]; omega
        · obtain ⟨D, N, hSo, hb1, hb2⟩ := HS1.out.swap.open
          have hgo : Good (star (DkA B1 D) (star (RkA R1 D N) (star (BoxA G ⟨kind, true, sec, at', .slice ad zs.length cd, zs, fill, .slice ak ks.length ck, ks⟩) (star (PrA B2 R2 k) emp)))) := (good_dk _ _).star ((good_rk _ _ _).star (HGB.out _ _ _))
          have HSo := hide hSo
          have HGo := hide hgo
          have HBn := hide (And.intro hb1 hb2)
          have hOk : D.Ok := by obtain ⟨F1, h1⟩ := hSo.head; exact h1.ok
          have HOk := hide hOk
          obtain ⟨F1, hdk⟩ := hSo.head
          have HM1 := hide (medium_any hdk)
          have hNb : N ≤ 2000000 := by omega
          clear hdk hSo hgo hb1 hb2 hOk
          go_wp2_with fail
          refine HM1.out.mono ?_
          rintro e w2 ⟨r1, cur1, rfl, hr1, hm1, hx1⟩
          have hO1 := ow_flt hr1 hm1 HOk.out.m
          have HS2 := hide (HSo.out.below HGo.out hx1)
          have HF1 := hide (of_row hO1 (flt_len (fun s hs => (HOk.out.m s hs).1)) (flt_lt HOk.out.m))
          clear hr1 hm1 hx1 hO1 HM1
          go_wp2_with fail
          refine HF1.out.mono ?_
          rintro e w3 ⟨rfl, hd3, hx3⟩
          have HS3 := hide (HS2.out.new HGo.out hd3 (fun b hb => by rw [hb]; exact Nat.le_refl _) hx3)
          generalize w2.heap.size = B3 at hd3 HS3 ⊢
          obtain ⟨F4, hrk⟩ := HS3.out.drop.drop.head
          have HM2 := hide (mediumR_any hrk (by omega))
          have HG3 : Hid (Good (star (DkA B3 (cln (sct (flt D.M 1024)) 0)) (star (DkA B1 D) (star (RkA R1 D N) (star (BoxA G ⟨kind, true, sec, at', .slice ad zs.length cd, zs, fill, .slice ak ks.length ck, ks⟩) (star (PrA B2 R2 k) emp)))))) := hide ((good_dk _ _).star HGo.out)
          clear hrk hd3 hx3 HS2 HF1
          go_wp2_with fail
          refine HM2.out.mono ?_
          rintro e w4 ⟨r2, cur2, rfl, hr2, hm2, hx4⟩
          have hO2 := ow_flt hr2 hm2 HOk.out.m
          have HS4 := hide (HS3.out.below HG3.out hx4)
          have HF2 := hide (ofR_rd hO2.rd (flt_len (fun s hs => (HOk.out.m s hs).1)) (flt_lt HOk.out.m) (fun y n c hy => by
            obtain ⟨_, ⟨h0, _⟩ | ⟨g, cp, cur, hv, _, _, hnc, _⟩⟩ := hO2
            · rw [hy] at h0; cases h0
            · rw [hy] at hv; cases hv; exact hnc))
          clear hr2 hm2 hx4 hO2 HM2 HS3
          go_wp2_with fail
          refine HF2.out.mono ?_
          rintro e w5 ⟨rfl, F5, hr5, hF5, hx5⟩
          have HS5 := hide (HS4.out.new HG3.out hr5 hF5 hx5)
          generalize w4.heap.size = R3 at hr5 HS5 ⊢
          have HS6 := hide ((HS5.out.swap.shut (n := k + 1) (by simp [cln]) (by simp [cln])).swap.swap2)
          have HS7 := hide (HS6.out.shut (n := k + 1) (by have := HBn.out.1; omega) (by have := HBn.out.2; omega))
          have HSE : Hid (Sys w w5 (star (PrA B1 R1 (k + 1)) (star (PrA B3 R3 (k + 1)) emp))) := hide (HS7.out.swap2.swap.drop.drop3)
          clear hr5 hF5 hx5 HF2 HS4 HS5 HS6 HS7 HSo HS1 c0 c1 c2 c3 c4 c5 c6
          go_wp2
          go_roundw
          case rel => first | exact ⟨k + 1, by omega, by go_num, _, _, _, _, rfl, rfl, rfl, rfl, HSE⟩ | ((repeat apply Exists.intro); refine ⟨?_, rfl⟩; exact ⟨k + 1, by omega, by go_num, _, _, _, _, rfl, rfl, rfl, rfl, HSE⟩)
          case measure => simp [intOf]; omega
      · have h13 : (kind == 13) = false := by rw [beq_eq_false_iff_ne]; exact k13
        clear k13
        cases two
        · have HQ := hide (play_any HS1.out.swap (HGB.out _ _ _) (by omega) _ HIn.out)
          go_wp2_with fail
          refine HQ.out.mono ?_
          rintro e w2 ⟨rfl, hs2⟩
          have HSE : Hid (Sys w w2 (star (PrA B1 R1 (k + 1)) (star (PrA B2 R2 (k + 1)) emp))) := hide (hs2.swap.drop.swap.more1.swap)
          clear hs2 HQ HS1 c0 c1 c2 c3 c4 c5 c6
          go_wp2
          go_roundw
          case rel => first | exact ⟨k + 1, by omega, by go_num, _, _, _, _, rfl, rfl, rfl, rfl, HSE⟩ | ((repeat apply Exists.intro); refine ⟨?_, rfl⟩; exact ⟨k + 1, by omega, by go_num, _, _, _, _, rfl, rfl, rfl, rfl, HSE⟩)
          case measure => simp [intOf]; omega
        · have HQ := hide (play_any HS1.out.swap2.swap (HGB.out _ _ _) (by omega) _ HIn.out)
          go_wp2_with fail
          refine HQ.out.mono ?_
          rintro e w2 ⟨rfl, hs2⟩
          have HSE : Hid (Sys w w2 (star (PrA B1 R1 (k + 1)) (star (PrA B2 R2 (k + 1)) emp))) := hide (hs2.swap.drop.swap.more1)
          clear hs2 HQ HS1 c0 c1 c2 c3 c4 c5 c6
          go_wp2
          go_roundw
          case rel => first | exact ⟨k + 1, by omega, by go_num, _, _, _, _, rfl, rfl, rfl, rfl, HSE⟩ | ((repeat apply Exists.intro); refine ⟨?_, rfl⟩; exact ⟨k + 1, by omega, by go_num, _, _, _, _, rfl, rfl, rfl, rfl, HSE⟩)
          case measure => simp [intOf]; omega
  · obtain rfl : k = len := by omega
    have hd : decide ((k : Int) < (k : Int)) = false := by simp
    have HG2 : Hid (∀ B R n, Good (star (PrA B R n) emp)) := hide (fun B R n => (good_pr B R n).star good_emp)
    have HQ := hide (ends_any KS.out (HG2.out _ _ _) (by omega) a k cap Z hl HZ.out)
    clear KS
    go_wp2_with fail
    refine HQ.out.mono ?_
    rintro e w2 ⟨rfl, hs2⟩
    have HQ2 := hide (ends_any hs2.swap (HG2.out _ _ _) (by omega) a k cap Z hl HZ.out)
    clear hs2 HQ
    go_wp2_with fail
    refine HQ2.out.mono ?_
    rintro e w3 ⟨rfl, hs3⟩
    have HBel := hide hs3.bel
    clear hs3 HQ2
    go_wp2
    go_ret
    exact ⟨rfl, HBel.out⟩
end Go.Proofs.Ytnpklhjndominaa
