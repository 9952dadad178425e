import Derived.Test.YtoaplkfmchphbaaDoorS20
import Derived.Test.YtoaplkfmchphbaaDoorS21
import Derived.Test.YtoaplkfmchphbaaDoorS22
import Derived.Test.YtoaplkfmchphbaaDoorS25
namespace Go.Proofs.YtoaplkfmchphbaaDoor
open Go.RowKit
theorem sWs_ok {n i : Nat} {L : List Nat} (hn : n < 4294967296) (hi : i < 4294967296) (h : ∀ x ∈ L, x < 4294967296) : ∀ x ∈ sWs n i L, x < 4294967296 := by
  intro x hx
  unfold sWs at hx
  rcases List.mem_append.1 hx with h1 | h1
  · have : ∀ n ∈ sIs.map word, n < 4294967296 := by decide
    exact this x h1
  · rcases List.mem_append.1 h1 with h1 | h1
    · simp only [List.mem_cons, List.not_mem_nil, or_false] at h1
      rcases h1 with rfl | rfl
      · exact hi
      · exact hn
    · rcases List.mem_append.1 h1 with h1 | h1
      · exact h x h1
      · obtain rfl : x = 77 := by simpa using h1
        decide
theorem sS_mcW (n : Nat) (L : List Nat) : mcW (sWs n 1 L) = sS n 1 L 0 0 0 0 0 0 0 0 := by
  unfold mcW sS
  congr 1
  funext j
  simp [qq]
theorem Wd.take {W : World} {ao : Option Addr} {ns : List Nat} (h : Wd W ao ns) (k : Nat) : Wd W ao (ns.take k) := fun j hj => by
  have hj2 : j < ns.length := by rw [List.length_take] at hj; omega
  obtain ⟨a, e, hc⟩ := h j hj2
  exact ⟨a, e, by rw [hc]; simp⟩
theorem own_cap {W : World} {base : Nat} {v : Value} {ns : List Nat} (h : W.ownsRow base 29 1 v ns.length (wds ns)) : ∃ ao c, v = .slice ao ns.length c ∧ Wd W ao ns ∧ ns.length ≤ c ∧ (0 < ns.length → ∃ a, ao = some a) := by
  rcases h.2 with ⟨h1, h2⟩ | ⟨g, cap, cur, h1, _, _, h4, _⟩
  · exact ⟨none, 0, by rw [h1, h2], fun j hj => by omega, by omega, fun h0 => by omega⟩
  · obtain ⟨ao, c, e, hw⟩ := Wd.of h
    rw [h1] at e
    cases e
    exact ⟨_, _, h1, hw, h4, fun _ => ⟨_, rfl⟩⟩
section
variable (w : World)
set_option maxRecDepth 100000 in
set_option maxHeartbeats 4000000 in
theorem sorts_walk (ao : Option Addr) (cap : Nat) (ns : List Nat) (hl : ns.length ≤ 1048576) (hn : ∀ x ∈ ns, x < 4294967296) (hW : Wd w ao ns) (ha : ao = none → ns.length = 0 ∧ cap = 0) (hT : Tb w) : Calls Tryd.prog 6 #[.slice ao ns.length cap] w fun e w' => e = .returned (.bool true) ∧ Below w.heap.size w w' := by
  have HW0 := hide (words_own w ao cap ns hl hW ha)
  have HT := hide hT
  have HOK0 := hide hn
  clear hT hW ha hn
  by_cases h5 : 40 < ns.length
  · have h5I : (40 : Int) < (ns.length : Int) := by omega
    go_enter Tryd.func6, Tryd.ntmps6
    go_wp2_with fail
    refine HW0.out.mono ?_
    rintro e w2 ⟨v, rfl, hO2, hb2⟩
    obtain ⟨bo, cb, rfl, hW2, hcap, hsome⟩ := own_cap hO2
    have HB2 := hide hb2
    clear hb2 hO2 HW0
    obtain ⟨ba, rfl⟩ := hsome (by omega)
    have hcI : (40 : Int) ≤ (cb : Int) := by omega
    obtain ⟨L, hL⟩ : ∃ L, ns.take 40 = L := ⟨_, rfl⟩
    have HWL : Hid (Wd w2 (some ba) L) := hide (by rw [← hL]; exact hW2.take 40)
    have HOK : Hid (∀ x ∈ L, x < 4294967296) := hide (fun x hx => HOK0.out x (by rw [← hL] at hx; exact List.mem_of_mem_take hx))
    obtain ⟨n, hn⟩ : ∃ n, (40 : Nat) = n := ⟨_, rfl⟩
    have hLn : L.length = n := by rw [← hL, List.length_take, ← hn]; omega
    have hn40 : n ≤ 40 := by omega
    have HN := hide hn
    clear hL hn hW2 HOK0
    go_upto_region 4 with fail
    rw [HN.out]
    clear HN h5 h5I hcI hcap hl hsome
    obtain ⟨bo, hbo⟩ : ∃ bo, some ba = bo := ⟨_, rfl⟩
    rw [hbo] at HWL ⊢
    clear hbo
    have HI := hide (Tryd.itoa (n : Int) (by omega) (by omega) w2 (tabIs_below HT.out.pw HB2.out))
    rw [Lib.itoa_nonneg] at HI
    have hlx := dec_len10 (n := n) (by omega)
    have hC := sC1_len
    obtain ⟨Y1, hY1⟩ : ∃ Y, sC1 ++ Lib.decDigits n = Y := ⟨_, rfl⟩
    obtain ⟨Y2, hY2⟩ : ∃ Y, Y1 ++ [10, 108, 105, 115, 116, 58, 10] = Y := ⟨_, rfl⟩
    have l1 : Y1.length = 328 + (Lib.decDigits n).length := by rw [← hY1, List.length_append, hC]
    have l2 : Y2.length = Y1.length + 7 := by rw [← hY2, List.length_append]; rfl
    have HY2 : Hid (Y2 = sC1 ++ Lib.decDigits n ++ [10, 108, 105, 115, 116, 58, 10]) := hide (by rw [← hY2, ← hY1])
    have M1 := hide (And.intro (show Y1.length ≤ 9223372036854775807 by omega) (And.intro (show Y2.length ≤ 9223372036854775807 by omega) (show Y2.length ≤ 345 by omega)))
    clear l1 l2 hC hlx
    have HLN := hide hLn
    clear hLn
    go_wp2_with fail
    refine HI.out.mono ?_
    rintro e w3 ⟨rfl, hb3⟩
    have HB3 := hide (HB2.out.trans (hb3.mono HB2.out.size))
    have HW3 := hide (HWL.out.below hb3)
    clear hb3 HI HB2 HWL
    go_upto_region 6 with (first | (refine wp_cat (by rfl) _ (.tmp 21) rfl (A := sC1) (by kernel_rfl) rfl hY1 M1.out.1 ?_) | (refine wp_cat (by rfl) (.tmp 22) _ rfl rfl rfl hY2 M1.out.2.1 ?_))
    clear hY1 hY2
    go_loopw [3, 4] (fun tv iv wr => ∃ i : Nat, iv = .int .i64 (i : Int) ∧ tv = .string ⟨(Y2 ++ sVs (L.take i)).toArray⟩ ∧ i ≤ n ∧ Below w3.heap.size w3 wr) (fun _ iv _ => n - (intOf iv).toNat)
    case atStart => exact ⟨0, rfl, by simp [sVs], by omega, Below.refl _ _⟩
    case round =>
      obtain ⟨i, rfl, rfl, hi, hB⟩ := hrel
      have HB := hide hB
      clear hB
      by_cases hlt : i < n
      · have hltI : (i : Int) < (n : Int) := by omega
        have hiL : i < L.length := by rw [HLN.out]; exact hlt
        obtain ⟨b, rfl, hc1⟩ := (HW3.out.below HB.out) i hiL
        obtain ⟨u, hu⟩ : ∃ u, L[i] = u := ⟨_, rfl⟩
        rw [hu] at hc1
        have hu32 : u < 4294967296 := by rw [← hu]; exact HOK.out _ (List.getElem_mem hiL)
        have hV := sVs_snoc (L.take i) u
        rw [show L.take i ++ [u] = L.take (i + 1) by rw [← hu, List.take_succ_eq_append_getElem hiL]] at hV
        have hvl := sVs_len (L.take i) (fun x hx => HOK.out x (List.mem_of_mem_take hx))
        rw [List.length_take] at hvl
        have hul := dec_len10 hu32
        have HU := hide hu
        clear hu
        have HNm := hide (fun W (h : Below w.heap.size w W) => num_any W u hu32 (tabIs_below HT.out.pw h))
        obtain ⟨X0, hX0⟩ : ∃ Y, Y2 ++ sVs (L.take i) = Y := ⟨_, rfl⟩
        obtain ⟨X1, hX1⟩ : ∃ Y, X0 ++ [46, 119, 111, 114, 100, 32] = Y := ⟨_, rfl⟩
        obtain ⟨X2, hX2⟩ : ∃ Y, X1 ++ Lib.decDigits u = Y := ⟨_, rfl⟩
        obtain ⟨X3, hX3⟩ : ∃ Y, X2 ++ [10] = Y := ⟨_, rfl⟩
        have HX : Hid (Y2 ++ sVs (L.take (i + 1)) = X3) := hide (by rw [hV, ← hX3, ← hX2, ← hX1, ← hX0]; simp)
        have k0 : X0.length = Y2.length + (sVs (L.take i)).length := by rw [← hX0, List.length_append]
        have k1 : X1.length = X0.length + 6 := by rw [← hX1, List.length_append]; rfl
        have k2 : X2.length = X1.length + (Lib.decDigits u).length := by rw [← hX2, List.length_append]
        have k3 : X3.length = X2.length + 1 := by rw [← hX3, List.length_append]; rfl
        have hy2 := M1.out.2.2
        have M2 := hide (And.intro (show X1.length ≤ 9223372036854775807 by omega) (And.intro (show X2.length ≤ 9223372036854775807 by omega) (show X3.length ≤ 9223372036854775807 by omega)))
        rw [hX0]
        clear k0 k1 k2 k3 hX0 hV hvl hul hy2
        go_wp2_with (first | (refine wp_cat (by rfl) (.tmp 30) _ rfl rfl rfl hX1 M2.out.1 ?_))
        refine (HNm.out _ (HB3.out.trans (HB.out.mono HB3.out.size))).mono ?_
        rintro e w4 ⟨rfl, hb4⟩
        have HB4 := hide (HB.out.trans (hb4.mono HB.out.size))
        clear hb4 HNm HB
        go_wp2_with (first | (refine wp_cat (by rfl) (.tmp 31) _ rfl rfl rfl hX2 M2.out.2.1 ?_) | (refine wp_cat (by rfl) (.tmp 37) _ rfl rfl rfl hX3 M2.out.2.2 ?_))
        refine ⟨⟨i + 1, by simp, by rw [HX.out], by omega, HB4.out⟩, ?_⟩
        simp [intOf]
        omega
      · have hltI : ¬ (i : Int) < (n : Int) := by omega
        obtain rfl : i = n := by omega
        have ek : L.take i = L := by rw [← HLN.out, List.take_length]
        rw [ek]
        have hvl := sVs_len L HOK.out
        rw [HLN.out] at hvl
        obtain ⟨X0, hX0⟩ : ∃ Y, Y2 ++ sVs L = Y := ⟨_, rfl⟩
        obtain ⟨X1, hX1⟩ : ∃ Y, X0 ++ [103, 117, 97, 114, 100, 58, 32, 46, 119, 111, 114, 100, 32, 55, 55, 10] = Y := ⟨_, rfl⟩
        have HX : Hid (X1 = sTxt L) := hide (by rw [sTxt_eq, HLN.out, ← HY2.out, hX0, hX1])
        have k0 : X0.length = Y2.length + (sVs L).length := by rw [← hX0, List.length_append]
        have k1 : X1.length = X0.length + 16 := by rw [← hX1, List.length_append]; rfl
        have hy2 := M1.out.2.2
        have M2 := hide (show X1.length ≤ 9223372036854775807 by omega)
        have hx1 : X1.length ≤ 1000000 := by omega
        have HL := hide (fun W h => loaded_any W X1 (sWs i 1 L) hx1 (by rw [HX.out, ← HLN.out]; exact sAsm (by rw [HLN.out]; exact hn40) HOK.out) (by rw [sWs_len, HLN.out]; omega) h)
        rw [hX0]
        clear k0 k1 hX0 hvl hy2 hx1 ek
        go_wp2_with (first | (refine wp_cat (by rfl) (.tmp 39) _ rfl rfl rfl hX1 M2.out ?_))
        refine (HL.out _ (HT.out.ops.below (HB3.out.trans (HB.out.mono HB3.out.size)))).mono ?_
        rintro e w4 ⟨N, rfl, hN, hM, hb4⟩
        have HB4 := hide ((HB3.out.trans (HB.out.mono HB3.out.size)).trans (hb4.mono (HB3.out.trans (HB.out.mono HB3.out.size)).size))
        have HW4 := hide ((HW3.out.below HB.out).below hb4)
        have HNB : Hid (wr.heap.size ≤ N) := hide hN
        have HBw := hide (HB3.out.trans (HB.out.mono HB3.out.size))
        have HM4 := hide hM
        have HWr := hide (HW3.out.below HB.out)
        have HBr4 := hide hb4
        clear hb4 hM hN HL hX1 HX HB HW3
        obtain ⟨L', q, i', hp, hU, hrun⟩ := sAll L (by rw [HLN.out]; exact hn40)
        rw [HLN.out] at hrun
        have HR := hide (runs_any wr w4 N (mcW (sWs i 1 L)) ⟨sM i i' L', q, 24, true⟩ 20000 (by decide) HM4.out (mcW_ok (sWs_ok (by omega) (by decide) HOK.out)) (by rw [sS_mcW]; exact hrun) HNB.out (HT.out.ops.below HBw.out) HBr4.out)
        have HP := hide hp
        have HU := hide hU
        have HL2 : Hid (L'.length = i) := hide (by rw [hp.length_eq, HLN.out])
        clear hrun HM4 hp hU HBr4 HW4 HB4
        go_wp2_with fail
        refine HR.out.mono ?_
        rintro e w5 ⟨rfl, hM5, hb5⟩
        have HM5 := hide hM5
        have HB5 := hide (HBw.out.trans (hb5.mono HBw.out.size))
        have HW5 := hide (HWr.out.below hb5)
        clear hM5 hb5 HR HWr HBw
        generalize hE : (⟨sM i i' L', q, 24, true⟩ : Mc) = E at *
        have HE := hide hE
        have HD : Hid (E.dn = true) := hide (by rw [← hE])
        have hdn := HD.out
        clear hE
        go_upto_region 15 with fail
        clear hdn
        go_loopw [8] (fun pv wq => ∃ p : Nat, pv = .int .i64 (p : Int) ∧ p ≤ i ∧ Hid (Mb wq N E) ∧ Hid (Wd wq bo L) ∧ Hid (Below w.heap.size w wq)) (fun pv _ => i - (intOf pv).toNat)
        case atStart => exact ⟨0, rfl, by omega, HM5, HW5, HB5⟩
        case round =>
          obtain ⟨p, rfl, hp, HMq, HWq, HBq⟩ := hrel
          clear HM5 HW5 HB5
          by_cases hpt : p < i
          · have hptI : (p : Int) < (i : Int) := by omega
            have hpL : p < L.length := by rw [HLN.out]; exact hpt
            have hpL2 : p < L'.length := by rw [HL2.out]; exact hpt
            go_upto_region 17 with fail
            go_cut [80] (fun v wx => v = .bool false ∧ ∃ nd, wx = wr.drewN nd)
            case first =>
              by_cases h0 : p = 0
              · subst h0
                go_quiet (fail)
                go_wp2_with fail
                go_meet
                case rel => exact ⟨rfl, _, rfl⟩
              · obtain ⟨p', rfl⟩ : ∃ p', p = p' + 1 := ⟨p - 1, by omega⟩
                have c2 := HMq.out.m (i := 26 + (p' + 1)) (by omega)
                have c1 := HMq.out.m (i := 26 + p') (by omega)
                rw [← HE.out] at c1 c2
                have s1 : sM i i' L' (26 + p') = L'.getD p' 0 := sM_l i i' L' (by omega)
                have s2 : sM i i' L' (26 + (p' + 1)) = L'.getD (p' + 1) 0 := sM_l i i' L' hpL2
                have hle : L'.getD p' 0 ≤ L'.getD (p' + 1) 0 := by
                  have := List.pairwise_iff_getElem.1 HU.out p' (p' + 1) (by omega) hpL2 (by omega)
                  simpa [List.getD_eq_getElem?_getD, List.getElem?_eq_getElem hpL2, List.getElem?_eq_getElem (show p' < L'.length by omega)] using this
                simp only [s1, s2] at c1 c2
                generalize L'.getD p' 0 = y1 at *
                generalize L'.getD (p' + 1) 0 = y2 at *
                have hle2 : ¬ (y2 : Int) < (y1 : Int) := by omega
                have g0 : (0 : Int) < ((p' + 1 : Nat) : Int) := by omega
                go_quiet (fail)
                go_wp2_with fail
                go_meet
                case rel => exact ⟨rfl, _, rfl⟩
            case rest =>
            obtain ⟨hv, nd, hw⟩ := hcut
            subst hv
            have HMz : Hid (Mb wc N E) := hide (by rw [hw]; exact HMq.out.keep rfl)
            have HWz : Hid (Wd wc bo L) := hide (by rw [hw]; exact HWq.out)
            have HBz : Hid (Below w.heap.size w wc) := hide (by rw [hw]; exact below_drw HBq.out _)
            obtain ⟨x, hx⟩ : ∃ x, L[p] = x := ⟨_, rfl⟩
            have HXx := hide hx
            clear hw HMq HWq HBq hx
            generalize wr = wold at *
            go_upto_region 21 with fail
            go_loopw [9, 10, 11] (fun cv dv jv wq => ∃ j : Nat, jv = .int .i64 (j : Int) ∧ cv = .int .i64 ((L.take j).count x : Nat) ∧ dv = .int .i64 ((L'.take j).count x : Nat) ∧ j ≤ i ∧ Hid (Mb wq N E) ∧ Hid (Wd wq bo L) ∧ Hid (Below w.heap.size w wq)) (fun _ _ jv _ => i - (intOf jv).toNat)
            case atStart => exact ⟨0, rfl, rfl, rfl, by omega, HMz, HWz, HBz⟩
            case round =>
              obtain ⟨j, rfl, rfl, rfl, hj, HMq, HWq, HBq⟩ := hrel
              clear HMz HWz HBz
              by_cases hjt : j < i
              · have hjtI : (j : Int) < (i : Int) := by omega
                have hjL : j < L.length := by rw [HLN.out]; exact hjt
                have hjL2 : j < L'.length := by rw [HL2.out]; exact hjt
                obtain ⟨b, rfl, cp⟩ := HWq.out p hpL
                obtain ⟨b2, eb, cj⟩ := HWq.out j hjL
                cases eb
                rw [HXx.out] at cp
                have cm := HMq.out.m (i := 26 + j) (by omega)
                rw [← HE.out] at cm
                have s1 : sM i i' L' (26 + j) = L'.getD j 0 := sM_l i i' L' hjL2
                have g2 : L'.getD j 0 = L'[j] := by rw [List.getD_eq_getElem?_getD, List.getElem?_eq_getElem hjL2]; rfl
                simp only [s1, g2] at cm
                have n1 : (L.take (j + 1)).count x = (L.take j).count x + (if L[j] = x then 1 else 0) := by
                  rw [List.take_succ_eq_append_getElem hjL, List.count_append, List.count_singleton]
                  simp
                have n2 : (L'.take (j + 1)).count x = (L'.take j).count x + (if L'[j] = x then 1 else 0) := by
                  rw [List.take_succ_eq_append_getElem hjL2, List.count_append, List.count_singleton]
                  simp
                have b1 : (L.take j).count x ≤ j := Nat.le_trans List.count_le_length (by rw [List.length_take]; omega)
                have b2 : (L'.take j).count x ≤ j := Nat.le_trans List.count_le_length (by rw [List.length_take]; omega)
                have N1 := hide n1
                have N2 := hide n2
                clear n1 n2 s1 g2
                generalize L[j] = y1 at *
                generalize L'[j] = y2 at *
                generalize hcc : (L.take j).count x = c at *
                generalize hdd : (L'.take j).count x = d at *
                clear hcc hdd
                by_cases t1 : y1 = x
                · by_cases t2 : y2 = x
                  · have t1b : ((y1 : Int) == (x : Int)) = true := by rw [beq_iff_eq]; omega
                    have t2b : ((y2 : Int) == (x : Int)) = true := by rw [beq_iff_eq]; omega
                    rw [if_pos t1] at N1
                    rw [if_pos t2] at N2
                    clear t1 t2
                    go_upto_region 23 with fail
                    go_quiet (fail)
                    go_upto_region 25 with fail
                    go_quiet (fail)
                    go_wp2
                    refine ⟨⟨j + 1, by simp, by rw [N1.out]; simp, by rw [N2.out]; simp, by omega, hide (HMq.out.keep rfl), hide HWq.out, hide (below_drw HBq.out _)⟩, ?_⟩
                    simp [intOf]
                    omega
                  · have t1b : ((y1 : Int) == (x : Int)) = true := by rw [beq_iff_eq]; omega
                    have t2b : ((y2 : Int) == (x : Int)) = false := by rw [beq_eq_false_iff_ne]; omega
                    rw [if_pos t1] at N1
                    rw [if_neg t2] at N2
                    clear t1 t2
                    go_upto_region 23 with fail
                    go_quiet (fail)
                    go_upto_region 25 with fail
                    go_quiet (fail)
                    go_wp2
                    refine ⟨⟨j + 1, by simp, by rw [N1.out]; simp, by rw [N2.out]; simp, by omega, hide (HMq.out.keep rfl), hide HWq.out, hide (below_drw HBq.out _)⟩, ?_⟩
                    simp [intOf]
                    omega
                · by_cases t2 : y2 = x
                  · have t1b : ((y1 : Int) == (x : Int)) = false := by rw [beq_eq_false_iff_ne]; omega
                    have t2b : ((y2 : Int) == (x : Int)) = true := by rw [beq_iff_eq]; omega
                    rw [if_neg t1] at N1
                    rw [if_pos t2] at N2
                    clear t1 t2
                    go_upto_region 23 with fail
                    go_quiet (fail)
                    go_upto_region 25 with fail
                    go_quiet (fail)
                    go_wp2
                    refine ⟨⟨j + 1, by simp, by rw [N1.out]; simp, by rw [N2.out]; simp, by omega, hide (HMq.out.keep rfl), hide HWq.out, hide (below_drw HBq.out _)⟩, ?_⟩
                    simp [intOf]
                    omega
                  · have t1b : ((y1 : Int) == (x : Int)) = false := by rw [beq_eq_false_iff_ne]; omega
                    have t2b : ((y2 : Int) == (x : Int)) = false := by rw [beq_eq_false_iff_ne]; omega
                    rw [if_neg t1] at N1
                    rw [if_neg t2] at N2
                    clear t1 t2
                    go_upto_region 23 with fail
                    go_quiet (fail)
                    go_upto_region 25 with fail
                    go_quiet (fail)
                    go_wp2
                    refine ⟨⟨j + 1, by simp, by rw [N1.out]; simp, by rw [N2.out]; simp, by omega, hide (HMq.out.keep rfl), hide HWq.out, hide (below_drw HBq.out _)⟩, ?_⟩
                    simp [intOf]
                    omega
              · have hjtI : ¬ (j : Int) < (i : Int) := by omega
                obtain rfl : j = i := by omega
                rw [show L.take j = L by rw [← HLN.out, List.take_length], show L'.take j = L' by rw [← HL2.out, List.take_length], HP.out.count_eq x]
                generalize L.count x = c
                go_wp2
                refine ⟨⟨p + 1, by simp, by omega, HMq, HWq, HBq⟩, ?_⟩
                simp [intOf]
                omega
          · have hptI : ¬ (p : Int) < (i : Int) := by omega
            have c7 := HMq.out.m (i := 26 + i) (by omega)
            rw [← HE.out] at c7
            have s7 := sM_77 i i' L'
            rw [HL2.out] at s7
            simp only [s7] at c7
            go_wp2
            go_ret
            exact ⟨rfl, HBq.out⟩
  · have h5I : ¬ (40 : Int) < (ns.length : Int) := by omega
    go_enter Tryd.func6, Tryd.ntmps6
    go_wp2_with fail
    refine HW0.out.mono ?_
    rintro e w2 ⟨v, rfl, hO2, hb2⟩
    obtain ⟨bo, cb, rfl, hW2, hcap, hsome⟩ := own_cap hO2
    have HB2 := hide hb2
    clear hb2 hO2 HW0
    have HWL : Hid (Wd w2 bo ns) := hide hW2
    have HOK := HOK0
    obtain ⟨L, hL⟩ : ∃ L, ns = L := ⟨_, rfl⟩
    rw [hL] at HWL HOK
    obtain ⟨n, hn⟩ : ∃ n, ns.length = n := ⟨_, rfl⟩
    have hLn : L.length = n := by rw [← hL, hn]
    have hn40 : n ≤ 40 := by omega
    have HN := hide hn
    clear hL hn hW2 HOK0
    go_upto_region 4 with fail
    rw [HN.out]
    clear HN h5 h5I hcap hl hsome
    have HI := hide (Tryd.itoa (n : Int) (by omega) (by omega) w2 (tabIs_below HT.out.pw HB2.out))
    rw [Lib.itoa_nonneg] at HI
    have hlx := dec_len10 (n := n) (by omega)
    have hC := sC1_len
    obtain ⟨Y1, hY1⟩ : ∃ Y, sC1 ++ Lib.decDigits n = Y := ⟨_, rfl⟩
    obtain ⟨Y2, hY2⟩ : ∃ Y, Y1 ++ [10, 108, 105, 115, 116, 58, 10] = Y := ⟨_, rfl⟩
    have l1 : Y1.length = 328 + (Lib.decDigits n).length := by rw [← hY1, List.length_append, hC]
    have l2 : Y2.length = Y1.length + 7 := by rw [← hY2, List.length_append]; rfl
    have HY2 : Hid (Y2 = sC1 ++ Lib.decDigits n ++ [10, 108, 105, 115, 116, 58, 10]) := hide (by rw [← hY2, ← hY1])
    have M1 := hide (And.intro (show Y1.length ≤ 9223372036854775807 by omega) (And.intro (show Y2.length ≤ 9223372036854775807 by omega) (show Y2.length ≤ 345 by omega)))
    clear l1 l2 hC hlx
    have HLN := hide hLn
    clear hLn
    go_wp2_with fail
    refine HI.out.mono ?_
    rintro e w3 ⟨rfl, hb3⟩
    have HB3 := hide (HB2.out.trans (hb3.mono HB2.out.size))
    have HW3 := hide (HWL.out.below hb3)
    clear hb3 HI HB2 HWL
    go_upto_region 6 with (first | (refine wp_cat (by rfl) _ (.tmp 21) rfl (A := sC1) (by kernel_rfl) rfl hY1 M1.out.1 ?_) | (refine wp_cat (by rfl) (.tmp 22) _ rfl rfl rfl hY2 M1.out.2.1 ?_))
    clear hY1 hY2
    go_loopw [3, 4] (fun tv iv wr => ∃ i : Nat, iv = .int .i64 (i : Int) ∧ tv = .string ⟨(Y2 ++ sVs (L.take i)).toArray⟩ ∧ i ≤ n ∧ Below w3.heap.size w3 wr) (fun _ iv _ => n - (intOf iv).toNat)
    case atStart => exact ⟨0, rfl, by simp [sVs], by omega, Below.refl _ _⟩
    case round =>
      obtain ⟨i, rfl, rfl, hi, hB⟩ := hrel
      have HB := hide hB
      clear hB
      by_cases hlt : i < n
      · have hltI : (i : Int) < (n : Int) := by omega
        have hiL : i < L.length := by rw [HLN.out]; exact hlt
        obtain ⟨b, rfl, hc1⟩ := (HW3.out.below HB.out) i hiL
        obtain ⟨u, hu⟩ : ∃ u, L[i] = u := ⟨_, rfl⟩
        rw [hu] at hc1
        have hu32 : u < 4294967296 := by rw [← hu]; exact HOK.out _ (List.getElem_mem hiL)
        have hV := sVs_snoc (L.take i) u
        rw [show L.take i ++ [u] = L.take (i + 1) by rw [← hu, List.take_succ_eq_append_getElem hiL]] at hV
        have hvl := sVs_len (L.take i) (fun x hx => HOK.out x (List.mem_of_mem_take hx))
        rw [List.length_take] at hvl
        have hul := dec_len10 hu32
        have HU := hide hu
        clear hu
        have HNm := hide (fun W (h : Below w.heap.size w W) => num_any W u hu32 (tabIs_below HT.out.pw h))
        obtain ⟨X0, hX0⟩ : ∃ Y, Y2 ++ sVs (L.take i) = Y := ⟨_, rfl⟩
        obtain ⟨X1, hX1⟩ : ∃ Y, X0 ++ [46, 119, 111, 114, 100, 32] = Y := ⟨_, rfl⟩
        obtain ⟨X2, hX2⟩ : ∃ Y, X1 ++ Lib.decDigits u = Y := ⟨_, rfl⟩
        obtain ⟨X3, hX3⟩ : ∃ Y, X2 ++ [10] = Y := ⟨_, rfl⟩
        have HX : Hid (Y2 ++ sVs (L.take (i + 1)) = X3) := hide (by rw [hV, ← hX3, ← hX2, ← hX1, ← hX0]; simp)
        have k0 : X0.length = Y2.length + (sVs (L.take i)).length := by rw [← hX0, List.length_append]
        have k1 : X1.length = X0.length + 6 := by rw [← hX1, List.length_append]; rfl
        have k2 : X2.length = X1.length + (Lib.decDigits u).length := by rw [← hX2, List.length_append]
        have k3 : X3.length = X2.length + 1 := by rw [← hX3, List.length_append]; rfl
        have hy2 := M1.out.2.2
        have M2 := hide (And.intro (show X1.length ≤ 9223372036854775807 by omega) (And.intro (show X2.length ≤ 9223372036854775807 by omega) (show X3.length ≤ 9223372036854775807 by omega)))
        rw [hX0]
        clear k0 k1 k2 k3 hX0 hV hvl hul hy2
        go_wp2_with (first | (refine wp_cat (by rfl) (.tmp 30) _ rfl rfl rfl hX1 M2.out.1 ?_))
        refine (HNm.out _ (HB3.out.trans (HB.out.mono HB3.out.size))).mono ?_
        rintro e w4 ⟨rfl, hb4⟩
        have HB4 := hide (HB.out.trans (hb4.mono HB.out.size))
        clear hb4 HNm HB
        go_wp2_with (first | (refine wp_cat (by rfl) (.tmp 31) _ rfl rfl rfl hX2 M2.out.2.1 ?_) | (refine wp_cat (by rfl) (.tmp 37) _ rfl rfl rfl hX3 M2.out.2.2 ?_))
        refine ⟨⟨i + 1, by simp, by rw [HX.out], by omega, HB4.out⟩, ?_⟩
        simp [intOf]
        omega
      · have hltI : ¬ (i : Int) < (n : Int) := by omega
        obtain rfl : i = n := by omega
        have ek : L.take i = L := by rw [← HLN.out, List.take_length]
        rw [ek]
        have hvl := sVs_len L HOK.out
        rw [HLN.out] at hvl
        obtain ⟨X0, hX0⟩ : ∃ Y, Y2 ++ sVs L = Y := ⟨_, rfl⟩
        obtain ⟨X1, hX1⟩ : ∃ Y, X0 ++ [103, 117, 97, 114, 100, 58, 32, 46, 119, 111, 114, 100, 32, 55, 55, 10] = Y := ⟨_, rfl⟩
        have HX : Hid (X1 = sTxt L) := hide (by rw [sTxt_eq, HLN.out, ← HY2.out, hX0, hX1])
        have k0 : X0.length = Y2.length + (sVs L).length := by rw [← hX0, List.length_append]
        have k1 : X1.length = X0.length + 16 := by rw [← hX1, List.length_append]; rfl
        have hy2 := M1.out.2.2
        have M2 := hide (show X1.length ≤ 9223372036854775807 by omega)
        have hx1 : X1.length ≤ 1000000 := by omega
        have HL := hide (fun W h => loaded_any W X1 (sWs i 1 L) hx1 (by rw [HX.out, ← HLN.out]; exact sAsm (by rw [HLN.out]; exact hn40) HOK.out) (by rw [sWs_len, HLN.out]; omega) h)
        rw [hX0]
        clear k0 k1 hX0 hvl hy2 hx1 ek
        go_wp2_with (first | (refine wp_cat (by rfl) (.tmp 39) _ rfl rfl rfl hX1 M2.out ?_))
        refine (HL.out _ (HT.out.ops.below (HB3.out.trans (HB.out.mono HB3.out.size)))).mono ?_
        rintro e w4 ⟨N, rfl, hN, hM, hb4⟩
        have HB4 := hide ((HB3.out.trans (HB.out.mono HB3.out.size)).trans (hb4.mono (HB3.out.trans (HB.out.mono HB3.out.size)).size))
        have HW4 := hide ((HW3.out.below HB.out).below hb4)
        have HNB : Hid (wr.heap.size ≤ N) := hide hN
        have HBw := hide (HB3.out.trans (HB.out.mono HB3.out.size))
        have HM4 := hide hM
        have HWr := hide (HW3.out.below HB.out)
        have HBr4 := hide hb4
        clear hb4 hM hN HL hX1 HX HB HW3
        obtain ⟨L', q, i', hp, hU, hrun⟩ := sAll L (by rw [HLN.out]; exact hn40)
        rw [HLN.out] at hrun
        have HR := hide (runs_any wr w4 N (mcW (sWs i 1 L)) ⟨sM i i' L', q, 24, true⟩ 20000 (by decide) HM4.out (mcW_ok (sWs_ok (by omega) (by decide) HOK.out)) (by rw [sS_mcW]; exact hrun) HNB.out (HT.out.ops.below HBw.out) HBr4.out)
        have HP := hide hp
        have HU := hide hU
        have HL2 : Hid (L'.length = i) := hide (by rw [hp.length_eq, HLN.out])
        clear hrun HM4 hp hU HBr4 HW4 HB4
        go_wp2_with fail
        refine HR.out.mono ?_
        rintro e w5 ⟨rfl, hM5, hb5⟩
        have HM5 := hide hM5
        have HB5 := hide (HBw.out.trans (hb5.mono HBw.out.size))
        have HW5 := hide (HWr.out.below hb5)
        clear hM5 hb5 HR HWr HBw
        generalize hE : (⟨sM i i' L', q, 24, true⟩ : Mc) = E at *
        have HE := hide hE
        have HD : Hid (E.dn = true) := hide (by rw [← hE])
        have hdn := HD.out
        clear hE
        go_upto_region 15 with fail
        clear hdn
        go_loopw [8] (fun pv wq => ∃ p : Nat, pv = .int .i64 (p : Int) ∧ p ≤ i ∧ Hid (Mb wq N E) ∧ Hid (Wd wq bo L) ∧ Hid (Below w.heap.size w wq)) (fun pv _ => i - (intOf pv).toNat)
        case atStart => exact ⟨0, rfl, by omega, HM5, HW5, HB5⟩
        case round =>
          obtain ⟨p, rfl, hp, HMq, HWq, HBq⟩ := hrel
          clear HM5 HW5 HB5
          by_cases hpt : p < i
          · have hptI : (p : Int) < (i : Int) := by omega
            have hpL : p < L.length := by rw [HLN.out]; exact hpt
            have hpL2 : p < L'.length := by rw [HL2.out]; exact hpt
            go_upto_region 17 with fail
            go_cut [80] (fun v wx => v = .bool false ∧ ∃ nd, wx = wr.drewN nd)
            case first =>
              by_cases h0 : p = 0
              · subst h0
                go_quiet (fail)
                go_wp2_with fail
                go_meet
                case rel => exact ⟨rfl, _, rfl⟩
              · obtain ⟨p', rfl⟩ : ∃ p', p = p' + 1 := ⟨p - 1, by omega⟩
                have c2 := HMq.out.m (i := 26 + (p' + 1)) (by omega)
                have c1 := HMq.out.m (i := 26 + p') (by omega)
                rw [← HE.out] at c1 c2
                have s1 : sM i i' L' (26 + p') = L'.getD p' 0 := sM_l i i' L' (by omega)
                have s2 : sM i i' L' (26 + (p' + 1)) = L'.getD (p' + 1) 0 := sM_l i i' L' hpL2
                have hle : L'.getD p' 0 ≤ L'.getD (p' + 1) 0 := by
                  have := List.pairwise_iff_getElem.1 HU.out p' (p' + 1) (by omega) hpL2 (by omega)
                  simpa [List.getD_eq_getElem?_getD, List.getElem?_eq_getElem hpL2, List.getElem?_eq_getElem (show p' < L'.length by omega)] using this
                simp only [s1, s2] at c1 c2
                generalize L'.getD p' 0 = y1 at *
                generalize L'.getD (p' + 1) 0 = y2 at *
                have hle2 : ¬ (y2 : Int) < (y1 : Int) := by omega
                have g0 : (0 : Int) < ((p' + 1 : Nat) : Int) := by omega
                go_quiet (fail)
                go_wp2_with fail
                go_meet
                case rel => exact ⟨rfl, _, rfl⟩
            case rest =>
            obtain ⟨hv, nd, hw⟩ := hcut
            subst hv
            have HMz : Hid (Mb wc N E) := hide (by rw [hw]; exact HMq.out.keep rfl)
            have HWz : Hid (Wd wc bo L) := hide (by rw [hw]; exact HWq.out)
            have HBz : Hid (Below w.heap.size w wc) := hide (by rw [hw]; exact below_drw HBq.out _)
            obtain ⟨x, hx⟩ : ∃ x, L[p] = x := ⟨_, rfl⟩
            have HXx := hide hx
            clear hw HMq HWq HBq hx
            generalize wr = wold at *
            go_upto_region 21 with fail
            go_loopw [9, 10, 11] (fun cv dv jv wq => ∃ j : Nat, jv = .int .i64 (j : Int) ∧ cv = .int .i64 ((L.take j).count x : Nat) ∧ dv = .int .i64 ((L'.take j).count x : Nat) ∧ j ≤ i ∧ Hid (Mb wq N E) ∧ Hid (Wd wq bo L) ∧ Hid (Below w.heap.size w wq)) (fun _ _ jv _ => i - (intOf jv).toNat)
            case atStart => exact ⟨0, rfl, rfl, rfl, by omega, HMz, HWz, HBz⟩
            case round =>
              obtain ⟨j, rfl, rfl, rfl, hj, HMq, HWq, HBq⟩ := hrel
              clear HMz HWz HBz
              by_cases hjt : j < i
              · have hjtI : (j : Int) < (i : Int) := by omega
                have hjL : j < L.length := by rw [HLN.out]; exact hjt
                have hjL2 : j < L'.length := by rw [HL2.out]; exact hjt
                obtain ⟨b, rfl, cp⟩ := HWq.out p hpL
                obtain ⟨b2, eb, cj⟩ := HWq.out j hjL
                cases eb
                rw [HXx.out] at cp
                have cm := HMq.out.m (i := 26 + j) (by omega)
                rw [← HE.out] at cm
                have s1 : sM i i' L' (26 + j) = L'.getD j 0 := sM_l i i' L' hjL2
                have g2 : L'.getD j 0 = L'[j] := by rw [List.getD_eq_getElem?_getD, List.getElem?_eq_getElem hjL2]; rfl
                simp only [s1, g2] at cm
                have n1 : (L.take (j + 1)).count x = (L.take j).count x + (if L[j] = x then 1 else 0) := by
                  rw [List.take_succ_eq_append_getElem hjL, List.count_append, List.count_singleton]
                  simp
                have n2 : (L'.take (j + 1)).count x = (L'.take j).count x + (if L'[j] = x then 1 else 0) := by
                  rw [List.take_succ_eq_append_getElem hjL2, List.count_append, List.count_singleton]
                  simp
                have b1 : (L.take j).count x ≤ j := Nat.le_trans List.count_le_length (by rw [List.length_take]; omega)
                have b2 : (L'.take j).count x ≤ j := Nat.le_trans List.count_le_length (by rw [List.length_take]; omega)
                have N1 := hide n1
                have N2 := hide n2
                clear n1 n2 s1 g2
                generalize L[j] = y1 at *
                generalize L'[j] = y2 at *
                generalize hcc : (L.take j).count x = c at *
                generalize hdd : (L'.take j).count x = d at *
                clear hcc hdd
                by_cases t1 : y1 = x
                · by_cases t2 : y2 = x
                  · have t1b : ((y1 : Int) == (x : Int)) = true := by rw [beq_iff_eq]; omega
                    have t2b : ((y2 : Int) == (x : Int)) = true := by rw [beq_iff_eq]; omega
                    rw [if_pos t1] at N1
                    rw [if_pos t2] at N2
                    clear t1 t2
                    go_upto_region 23 with fail
                    go_quiet (fail)
                    go_upto_region 25 with fail
                    go_quiet (fail)
                    go_wp2
                    refine ⟨⟨j + 1, by simp, by rw [N1.out]; simp, by rw [N2.out]; simp, by omega, hide (HMq.out.keep rfl), hide HWq.out, hide (below_drw HBq.out _)⟩, ?_⟩
                    simp [intOf]
                    omega
                  · have t1b : ((y1 : Int) == (x : Int)) = true := by rw [beq_iff_eq]; omega
                    have t2b : ((y2 : Int) == (x : Int)) = false := by rw [beq_eq_false_iff_ne]; omega
                    rw [if_pos t1] at N1
                    rw [if_neg t2] at N2
                    clear t1 t2
                    go_upto_region 23 with fail
                    go_quiet (fail)
                    go_upto_region 25 with fail
                    go_quiet (fail)
                    go_wp2
                    refine ⟨⟨j + 1, by simp, by rw [N1.out]; simp, by rw [N2.out]; simp, by omega, hide (HMq.out.keep rfl), hide HWq.out, hide (below_drw HBq.out _)⟩, ?_⟩
                    simp [intOf]
                    omega
                · by_cases t2 : y2 = x
                  · have t1b : ((y1 : Int) == (x : Int)) = false := by rw [beq_eq_false_iff_ne]; omega
                    have t2b : ((y2 : Int) == (x : Int)) = true := by rw [beq_iff_eq]; omega
                    rw [if_neg t1] at N1
                    rw [if_pos t2] at N2
                    clear t1 t2
                    go_upto_region 23 with fail
                    go_quiet (fail)
                    go_upto_region 25 with fail
                    go_quiet (fail)
                    go_wp2
                    refine ⟨⟨j + 1, by simp, by rw [N1.out]; simp, by rw [N2.out]; simp, by omega, hide (HMq.out.keep rfl), hide HWq.out, hide (below_drw HBq.out _)⟩, ?_⟩
                    simp [intOf]
                    omega
                  · have t1b : ((y1 : Int) == (x : Int)) = false := by rw [beq_eq_false_iff_ne]; omega
                    have t2b : ((y2 : Int) == (x : Int)) = false := by rw [beq_eq_false_iff_ne]; omega
                    rw [if_neg t1] at N1
                    rw [if_neg t2] at N2
                    clear t1 t2
                    go_upto_region 23 with fail
                    go_quiet (fail)
                    go_upto_region 25 with fail
                    go_quiet (fail)
                    go_wp2
                    refine ⟨⟨j + 1, by simp, by rw [N1.out]; simp, by rw [N2.out]; simp, by omega, hide (HMq.out.keep rfl), hide HWq.out, hide (below_drw HBq.out _)⟩, ?_⟩
                    simp [intOf]
                    omega
              · have hjtI : ¬ (j : Int) < (i : Int) := by omega
                obtain rfl : j = i := by omega
                rw [show L.take j = L by rw [← HLN.out, List.take_length], show L'.take j = L' by rw [← HL2.out, List.take_length], HP.out.count_eq x]
                generalize L.count x = c
                go_wp2
                refine ⟨⟨p + 1, by simp, by omega, HMq, HWq, HBq⟩, ?_⟩
                simp [intOf]
                omega
          · have hptI : ¬ (p : Int) < (i : Int) := by omega
            have c7 := HMq.out.m (i := 26 + i) (by omega)
            rw [← HE.out] at c7
            have s7 := sM_77 i i' L'
            rw [HL2.out] at s7
            simp only [s7] at c7
            go_wp2
            go_ret
            exact ⟨rfl, HBq.out⟩
end
end Go.Proofs.YtoaplkfmchphbaaDoor
