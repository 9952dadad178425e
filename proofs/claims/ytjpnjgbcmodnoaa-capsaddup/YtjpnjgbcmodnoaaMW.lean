import Derived.Deep.DeepCutAuto
import Derived.BigQuiet
import Derived.Test.YtjpnjgbcmodnoaaMC
namespace Go.Proofs.Ytjpnjgbcmodnoaa
open Go.RowKit Go.Shelf

set_option maxRecDepth 16000 in
set_option maxHeartbeats 8000000 in
theorem addUp_walk (a : Option Addr) (len cap : Nat) (O : Nat → Ov) (w : World) (_hl : len ≤ maxLen) (hO : IsOps w a len O) :
    Calls Try.prog 3 #[.slice a len cap] w fun e w' => e = .returned (.bool true) ∧ Below w.heap.size w w' := by
  have HO := hide hO
  clear hO
  go_enter Try.func3, Try.ntmps3
  go_wp2_with fail
  refine (begun_any w 3 1 9 7 ⟨by omega, by omega, by omega, by omega, by omega, by omega, by omega, by omega⟩).mono ?_
  rintro e w1 ⟨B, F, bk, rfl, h1, h2, h3, h4⟩
  have HSg : Hid (Sg Kd w w1 B) := hide ⟨F, bk, _, h1, begun_kd ⟨by omega, by omega⟩ ⟨by omega, by omega⟩ h4, Begun.snd ⟨by omega, by omega⟩ h4, h2, h3⟩
  clear h1 h2 h3 h4
  go_wp2_with fail
  go_loopw [4] (fun x wr => ∃ k : Nat, k ≤ len ∧ k ≤ 1024 ∧ x = .int .i64 (k : Int) ∧ Hid (Sg Kd w wr B)) (fun x _ => 1024 - (intOf x).toNat)
  case atStart => exact ⟨0, by omega, by omega, rfl, HSg⟩
  case round =>
  clear HSg
  obtain ⟨k, hk, hk2, rfl, K1⟩ := hrel
  by_cases hlt : k < len ∧ k < 1024
  · as_aux_lemma =>
      obtain ⟨hlt1, hlt2⟩ := hlt
      have hd1 : decide ((k : Int) < (len : Int)) = true := by simp; omega
      have hd2 : decide ((k : Int) < 1024) = true := by simp; omega
      obtain ⟨x, rfl, hx⟩ := HO.out.below K1.out.bel k hlt1
      generalize O k = o at *
      have hkl : k * 12 + 11 < len * 12 := by omega
      go_wp2_with (refine loadOp ?lwB _ rfl (x.add (k * 12)) ?lxB o ?lcB ?_)
      try (case lxB => rfl)
      case lcB => exact hx
      clear hx hkl
      refine (K1.out.play o (fun bk f bk' t1 t2 t3 t4 => t3.step t1.rk t2 t4)).mono ?_
      rintro e w4 ⟨rfl, hS5⟩
      have HS5 := hide hS5
      clear hS5 K1
      go_wp2
      go_roundw
      case rel =>
        first
          | exact ⟨k + 1, by omega, by omega, by go_num, HS5⟩
          | ((repeat apply Exists.intro); refine ⟨?_, rfl⟩; exact ⟨k + 1, by omega, by omega, by go_num, HS5⟩)
      case measure => simp [intOf]; omega
  go_upto_region 5 with fail
  go_cut [35] (fun v wx => v = .bool false ∧ wx = wr)
  case first =>
    by_cases hlq : k < len
    · have hkli : (k : Int) < (len : Int) := by omega
      have hk1024 : ¬ (k : Int) < 1024 := by omega
      go_wp2_with fail
      go_meet
      case rel => exact ⟨rfl, rfl⟩
    · have hkli : ¬ (k : Int) < (len : Int) := by omega
      go_wp2_with fail
      go_meet
      case rel => exact ⟨rfl, rfl⟩
  case rest =>
  have hwc := hcut.2
  have hvc := hcut.1
  subst hvc
  rw [hwc]
  clear hcut hwc hlt hk hk2
  go_wp2_with fail
  refine K1.out.all.mono ?_
  rintro e wA ⟨vA, bk, rfl, hrowA, hbA, hkd, hlenA, F, f, hS⟩
  have HS := hide hS
  have HKd := hide hkd
  have HHl := hide (HeldAt.of_row hrowA)
  obtain ⟨aA, cA, hvA, hclA⟩ := HHl.out
  obtain ⟨LA, hLA⟩ : ∃ L, (Go.Proofs.Ytjpnjgbcmodnoaa.hl bk 16).length = L := ⟨_, rfl⟩
  rw [hLA] at hvA hlenA
  subst hvA
  have HLA := hide hLA
  have HCA := hide hclA
  clear hS hkd hrowA hbA hLA hclA K1
  go_wp2_with fail
  go_loopw [6] (fun x wr => ∃ i : Nat, i ≤ 16 ∧ x = .int .i64 (i : Int) ∧ Hid (Below wA.heap.size wA wr)) (fun x _ => 16 - (intOf x).toNat)
  case atStart => exact ⟨0, by omega, rfl, Below.refl _ _⟩
  case round =>
  obtain ⟨i, hi, rfl, K2⟩ := hrel
  by_cases hi16 : i < 16
  · have hd : decide ((i : Int) < 16) = true := by simp; omega
    have HBr := hide (HS.out.book.below K2.out)
    go_wp2_with fail
    refine (list_ex wr F B bk HBr.out i).mono ?_
    rintro e wL ⟨v, rfl, hrow, hbL⟩
    rw [← msl_len, ← msl_enc] at hrow
    have HHm := hide (HeldAt.of_row hrow)
    obtain ⟨am, cm, hv, hcl⟩ := HHm.out
    have hlm : (msl bk i).length ≤ 48 := by rw [msl_len]; exact lf_len HBr.out i
    obtain ⟨Lm, hLm⟩ : ∃ L, (msl bk i).length = L := ⟨_, rfl⟩
    rw [hLm] at hv hlm
    subst hv
    have HLm := hide hLm
    have HCm := hide hcl
    have HBL := hide (HBr.out.below hbL)
    have HL0 := hide (K2.out.trans (hbL.mono K2.out.size))
    clear hrow hcl hLm hbL HBr K2
    have HA0 := hide (Ar.new wL)
    have HB0 := hide ((Below.refl wL.heap.size wL).alloc (Nat.le_refl _) (.cells #[.int .i64 0, .int .i64 0, .int .i64 0, .int .i64 0] 36))
    go_upto_region 14 with fail
    generalize wL.alloc (.cells #[.int .i64 0, .int .i64 0, .int .i64 0, .int .i64 0] 36) = w0 at *
    go_wp2_with fail
    go_loopw [10] (fun x wr => ∃ j : Nat, j ≤ Lm ∧ x = .int .i64 (j : Int) ∧ Hid (Ar wr wL.heap.size (fun t => ((kc (t : Int) ((prs (lf bk i) 0).take j) : Nat) : Int))) ∧ Hid (Below wL.heap.size wL wr)) (fun x _ => Lm - (intOf x).toNat)
    case atStart => exact ⟨0, by omega, rfl, hide (by simpa [kc] using HA0.out), HB0⟩
    case round =>
    clear HA0 HB0
    obtain ⟨j, hj, rfl, K3, K4⟩ := hrel
    by_cases hjl : j < Lm
    · as_aux_lemma =>
        have hjl' : j < (msl bk i).length := by rw [HLm.out]; exact hjl
        have hjp : j < (prs (lf bk i) 0).length := by rw [← msl_len]; exact hjl'
        obtain ⟨g, ham, h2, h3, h4, h5, h6, h7, h8⟩ := HCm.out j hjl'
        have hq : ∀ t, wr.cell? ⟨g, t, none⟩ = wL.cell? ⟨g, t, none⟩ := fun t => K4.out.cell h2
        rw [← hq] at h3 h4 h5 h6 h7 h8
        rw [msl_at hjl'] at h3 h4 h5 h6 h7 h8
        have hmem : (prs (lf bk i) 0)[j] ∈ prs (lf bk i) 0 := List.getElem_mem hjp
        have HKc : Hid (∀ t : Int, kc t ((prs (lf bk i) 0).take (j + 1)) = kc t ((prs (lf bk i) 0).take j) + if (prs (lf bk i) 0)[j].2.k = t then 1 else 0) := hide fun t => kc_take hjp
        have HPv : Hid (∀ p, j = p + 1 → ∃ z : Nat, z < (prs (lf bk i) 0)[j].1 ∧ wL.cell? ⟨g, p * 6 + 1, none⟩ = some (.int .i64 (z : Int))) := by
          refine hide fun p hp => ?_
          have hp1 : p < (msl bk i).length := by omega
          obtain ⟨g', e1, _, _, q4, _⟩ := HCm.out p hp1
          rw [msl_at hp1] at q4
          have : g = g' := by rw [ham] at e1; cases e1; rfl
          subst this
          exact ⟨_, prs_lt (by omega) hjp, q4⟩
        subst ham
        generalize (prs (lf bk i) 0)[j] = y at *
        obtain ⟨s, rk, ro, rs, rr, re, rt⟩ := y
        simp only at h3 h4 h5 h6 h7 h8
        have hat := lf_at.1 hmem
        obtain ⟨⟨hk1, hk3⟩, hrt⟩ := HKd.out i s _ hat
        simp only at hk1 hk3
        obtain ⟨kk, rfl⟩ : ∃ n : Nat, rk = n := ⟨rk.toNat, by omega⟩
        have hkl : (j : Int) < (Lm : Int) := by omega
        have hwk : j * 6 + 5 < Lm * 6 := by omega
        have HAt := hide hat
        have HRt := hide hrt
        have hH2 := heap_alloc_new wr (.cells #[.int .i64 (i : Int), .int .i64 (s : Int), .int .i64 (kk : Int), .int .i64 ro, .int .i64 rs, .int .i64 rr] 38)
        have hb2 := (Below.refl wr.heap.size wr).alloc (Nat.le_refl _) (.cells #[.int .i64 (i : Int), .int .i64 (s : Int), .int .i64 (kk : Int), .int .i64 ro, .int .i64 rs, .int .i64 rr] 38)
        have K5 := hide (K4.out.trans (hb2.mono K4.out.size))
        have K6 := hide (K3.out.below K3.out.lt hb2)
        have HNs := hide K3.out.lt
        clear hat hrt hq hmem K3 K4 hb2
        go_upto_region 18 with fail
        generalize wr.alloc (.cells #[.int .i64 (i : Int), .int .i64 (s : Int), .int .i64 (kk : Int), .int .i64 ro, .int .i64 rs, .int .i64 rr] 38) = w2 at *
        generalize hHq : wr.heap.size = H at *
        clear h3 h4 h5 h6 h7 h8 hHq
        obtain ⟨d0, d1, d2, d3, d4, d5, -, -, -, -, -, -⟩ := blk6 hH2
        have HG := hide (get_any w2 F B bk (HBL.out.below K5.out) (i : Int) (s : Int))
        rw [HAt.out, lcode_some HAt.out] at HG
        simp only [Option.getD_some, Rc.cap] at HG
        go_wp2_with fail
        refine HG.out.mono ?_
        rintro e w3 ⟨rfl, hb3⟩
        clear d0 d1 d2 d3 d4 d5 HG
        have hC := heap_alloc_new w3 (.cells #[.int .i64 (kk : Int), .int .i64 ro, .int .i64 rs, .int .i64 rr] 26)
        have hb4 := hb3.alloc hb3.size (.cells #[.int .i64 (kk : Int), .int .i64 ro, .int .i64 rs, .int .i64 rr] 26)
        have hH4 := (hb4.block H (Array.getElem?_eq_some_iff.1 hH2).1).trans hH2
        have K7 := hide (K5.out.trans (hb4.mono K5.out.size))
        have K8 := hide (K6.out.below K6.out.lt hb4)
        have HCH : Hid (H < w3.heap.size) := hide (Nat.lt_of_lt_of_le (Array.getElem?_eq_some_iff.1 hH2).1 hb3.size)
        clear K5 K6 hb3 hb4 hH2
        go_upto_region 19 with fail
        generalize w3.alloc (.cells #[.int .i64 (kk : Int), .int .i64 ro, .int .i64 rs, .int .i64 rr] 26) = w4 at *
        generalize w3.heap.size = C at *
        go_cut [112] (fun v wx => v = .bool false ∧ Below w4.heap.size w4 wx)
        case first =>
          obtain ⟨d0, d1, d2, d3, d4, d5, -, -, -, -, -, -⟩ := blk6 hH4
          obtain ⟨c0, c1, c2, c3⟩ := blk4 hC
          have t1 : decide ((kk : Int) < 1) = false := by simp; omega
          have t3 : decide (3 < (kk : Int)) = false := by simp; omega
          have hbB := fun n => below_drewN (Below.refl w4.heap.size w4) n
          rcases Nat.eq_zero_or_pos j with hj0 | hj0
          · as_aux_lemma =>
              subst hj0
              have t4 : decide ((0 : Int) < ((0 : Nat) : Int)) = false := by simp
              go_quiet (fail)
              go_wp2_with fail
              go_meet
              case rel => exact ⟨rfl, hbB _⟩
          · as_aux_lemma =>
              obtain ⟨p, rfl⟩ : ∃ p, j = p + 1 := ⟨j - 1, by omega⟩
              obtain ⟨z, hz, hzc⟩ := HPv.out p rfl
              try (simp only at hz)
              rw [← K7.out.cell h2] at hzc
              have t4 : decide ((0 : Int) < ((p + 1 : Nat) : Int)) = true := by simp
              have t5 : decide ((s : Int) ≤ (z : Int)) = false := by simp; omega
              have hpp : ((p + 1 : Nat) : Int) - 1 = (p : Int) := by omega
              have hpl : (p : Int) < (Lm : Int) := by omega
              go_quiet (fail)
              go_wp2_with fail
              go_meet
              case rel => exact ⟨by rw [decide_eq_false (by omega)], hbB _⟩
        case rest =>
        have hb5 := hcut.2
        have hvc := hcut.1
        subst hvc
        clear hcut HPv h2
        have hC5 := (hb5.block C (Array.getElem?_eq_some_iff.1 hC).1).trans hC
        have hH5 := (hb5.block H (Array.getElem?_eq_some_iff.1 hH4).1).trans hH4
        have K9 := hide (K7.out.trans (hb5.mono K7.out.size))
        have KA := hide (K8.out.below K8.out.lt hb5)
        clear K7 K8 hb5 hC hH4
        obtain ⟨c0, c1, c2, c3⟩ := blk4 hC5
        have hkk4 : kk < 4 := by omega
        have n0 := KA.out.cell hkk4
        have nf := KA.out.frozen kk
        have hcl : kc (kk : Int) ((prs (lf bk i) 0).take j) ≤ 48 := by
          refine Nat.le_trans kc_le ?_
          rw [List.length_take]
          have := HLm.out
          omega
        obtain ⟨cn, hcn⟩ : ∃ c, kc (kk : Int) ((prs (lf bk i) 0).take j) = c := ⟨_, rfl⟩
        have KB : Hid (Ar (wc.setCell ⟨wL.heap.size, kk, none⟩ (.int .i64 ((cn : Int) + 1))) wL.heap.size (fun t => ((kc (t : Int) ((prs (lf bk i) 0).take (j + 1)) : Nat) : Int))) := by
          refine hide (KA.out.set hkk4 _ fun t ht => ?_)
          rw [HKc.out]
          by_cases e : t = kk
          · subst e
            rw [if_pos rfl, if_pos rfl, hcn]
            omega
          · rw [if_neg e, if_neg (fun h => e (by omega))]
            omega
        rw [hcn] at n0 hcl
        have KC := hide (K9.out.setCell (p := ⟨wL.heap.size, kk, none⟩) (Nat.le_refl _) (.int .i64 ((cn : Int) + 1)))
        have hNe : H ≠ wL.heap.size := by have := HNs.out; omega
        have hCe : C ≠ wL.heap.size := by have := HNs.out; have := HCH.out; omega
        have hH6 := (heap_setCell_other wc ⟨wL.heap.size, kk, none⟩ H (.int .i64 ((cn : Int) + 1)) hNe).trans hH5
        have hC6 := (heap_setCell_other wc ⟨wL.heap.size, kk, none⟩ C (.int .i64 ((cn : Int) + 1)) hCe).trans hC5
        clear KA K9 hcn hH5 hC5 HKc
        go_upto_region 22 with fail
        generalize wc.setCell ⟨wL.heap.size, kk, none⟩ (.int .i64 ((cn : Int) + 1)) = w6 at *
        clear c0 c1 c2 c3 n0 nf hcl hNe hCe
        obtain ⟨c0, c1, c2, c3⟩ := blk4 hC6
        obtain ⟨i', j', l, ei, ej, hl1, hl2, hl3⟩ := atB_some HAt.out
        obtain rfl : i = i' := by omega
        obtain rfl : s = j' := by omega
        have HF := hide (find_any w6 F B bk (HBL.out.below KC.out) i l hl1 (kk : Int) rs rr HRt.out)
        have HWs := hide (wants_self HRt.out)
        simp only at HWs
        have HHit : Hid (∀ v, Fnd (wants (kk : Int) rs rr) l v → ∃ (t : Nat) (q : Rc), v = (t : Int) ∧ t ≤ s ∧ (t, q) ∈ prs (lf bk i) 0 ∧ q.k = (kk : Int) ∧ q.s = rs ∧ bits .and .i64 q.r rr = rr) := by
          refine hide fun v hv => ?_
          obtain ⟨t, q, e1, e2, e3, e4⟩ := hv.hit hl2 HWs.out
          have hm : (t, q) ∈ prs (lf bk i) 0 := by rw [hl3]; exact prs_mem.2 e3
          have hq := (HKd.out i t q (lf_at.1 hm)).2
          unfold wants at e4
          simp only [Bool.and_eq_true, decide_eq_true_eq] at e4
          exact ⟨t, q, e1, e2, hm, e4.1.1, e4.1.2, wants_rights (r := ⟨(kk : Int), ro, rs, rr, re, rt⟩) hq HRt.out e4.2⟩
        clear ei ej hl1 hl2 hl3 HWs
        go_wp2_with fail
        refine HF.out.mono ?_
        rintro e w7 ⟨v, rfl, hfnd, hb7⟩
        obtain ⟨t, q, rfl, ht, hmq, q1, q2, q3⟩ := HHit.out v hfnd
        clear HF HHit hfnd c0 c1 c2 c3
        have KD := hide (KC.out.trans (hb7.mono KC.out.size))
        have KE := hide (KB.out.below KB.out.lt hb7)
        have hH7 := (hb7.block H (Array.getElem?_eq_some_iff.1 hH6).1).trans hH6
        have hC7 := (hb7.block C (Array.getElem?_eq_some_iff.1 hC6).1).trans hC6
        clear KC KB hH6 hC6 hb7
        have HHs := hide (hasH_any w7 _ (msl bk i) (HHm.out.below KD.out) (by rw [HLm.out]; omega) (i : Int) (t : Int))
        have HFi := hide (msl_find hmq)
        clear hmq
        go_wp2_with fail
        refine HHs.out.mono ?_
        rintro e w8 ⟨hor, hb8⟩
        obtain rfl : e = .returned (.tuple #[.agg #[.int .i64 (i : Int), .int .i64 (t : Int), .int .i64 q.k, .int .i64 q.o, .int .i64 q.s, .int .i64 q.r], .bool true]) := by
          rcases hor with ⟨yy, h1, rfl⟩ | ⟨h1, _⟩
          · rw [HFi.out] at h1; cases h1; rfl
          · rw [HFi.out] at h1; cases h1
        clear hor HHs HFi
        rw [q1, q2]
        generalize q.r = qr at *
        generalize q.o = qo at *
        clear q1 q2
        have hG := heap_alloc_new w8 (.cells #[.int .i64 (i : Int), .int .i64 (t : Int), .int .i64 (kk : Int), .int .i64 qo, .int .i64 rs, .int .i64 qr] 38)
        have hb9 := hb8.alloc hb8.size (.cells #[.int .i64 (i : Int), .int .i64 (t : Int), .int .i64 (kk : Int), .int .i64 qo, .int .i64 rs, .int .i64 qr] 38)
        have hH9 := (hb9.block H (Array.getElem?_eq_some_iff.1 hH7).1).trans hH7
        have hC9 := (hb9.block C (Array.getElem?_eq_some_iff.1 hC7).1).trans hC7
        have KF := hide (KD.out.trans (hb9.mono KD.out.size))
        have KG := hide (KE.out.below KE.out.lt hb9)
        clear KD KE hH7 hC7 hb8 hb9
        go_upto_region 24 with fail
        generalize w8.alloc (.cells #[.int .i64 (i : Int), .int .i64 (t : Int), .int .i64 (kk : Int), .int .i64 qo, .int .i64 rs, .int .i64 qr] 38) = w9 at *
        generalize w8.heap.size = G at *
        obtain ⟨d0, d1, d2, d3, d4, d5, -, -, -, -, -, -⟩ := blk6 hH9
        obtain ⟨c0, c1, c2, c3⟩ := blk4 hC9
        obtain ⟨g0, g1, g2, g3, g4, g5, -, -, -, -, -, -⟩ := blk6 hG
        have t1 : ¬ (s : Int) < (t : Int) := by omega
        have t2 : ¬ bits .and .i64 qr rr ≠ rr := fun h => h q3
        clear hH9 hC9 hG
        go_wp2
        go_roundw
        case rel =>
          first
            | exact ⟨j + 1, by omega, by go_num, KG, KF⟩
            | ((repeat apply Exists.intro); refine ⟨?_, rfl⟩; exact ⟨j + 1, by omega, by go_num, KG, KF⟩)
        case measure => simp [intOf]; omega
    · have hd : decide ((j : Int) < (Lm : Int)) = false := by simp; omega
      obtain rfl : j = Lm := by omega
      have HcA : Hid (∀ t : Nat, kc (t : Int) ((prs (lf bk i) 0).take j) = cnt bk (i : Int) (t : Int)) := hide fun t => by
        rw [cnt_kc, List.take_of_length_le (by rw [← msl_len, HLm.out]; exact Nat.le_refl _)]
      have HBw := hide (HBL.out.below K4.out)
      have n1 := K3.out.cell (j := 1) (by omega)
      have n2 := K3.out.cell (j := 2) (by omega)
      have n3 := K3.out.cell (j := 3) (by omega)
      rw [HcA.out] at n1 n2 n3
      have HX1 := hide (fun W (h : Below wr.heap.size wr W) => count_any W F B bk (HBw.out.below h) (i : Int) 1)
      have HX2 := hide (fun W (h : Below wr.heap.size wr W) => count_any W F B bk (HBw.out.below h) (i : Int) 2)
      have HX3 := hide (fun W (h : Below wr.heap.size wr W) => count_any W F B bk (HBw.out.below h) (i : Int) 3)
      have HLl : Hid (∀ l, bk[i]? = some (some l) → l.countP Option.isSome = j) := by
        refine hide fun l hl => ?_
        have h1 := HLm.out
        rw [msl_len, prs_len] at h1
        have : lf bk i = l := by unfold lf; rw [look_nat, hl]; rfl
        rw [this] at h1
        exact h1
      have hx1 : cnt bk (i : Int) 1 = cnt bk (i : Int) ((1 : Nat) : Int) := rfl
      have hx2 : cnt bk (i : Int) 2 = cnt bk (i : Int) ((2 : Nat) : Int) := rfl
      have hx3 : cnt bk (i : Int) 3 = cnt bk (i : Int) ((3 : Nat) : Int) := rfl
      rw [hx1] at HX1
      rw [hx2] at HX2
      rw [hx3] at HX3
      generalize cnt bk (i : Int) ((1 : Nat) : Int) = x1 at *
      generalize cnt bk (i : Int) ((2 : Nat) : Int) = x2 at *
      generalize cnt bk (i : Int) ((3 : Nat) : Int) = x3 at *
      clear hx1 hx2 hx3
      have HNl := hide K3.out.lt
      clear K3
      go_upto_region 26 with fail
      have HN3 : Hid (∀ W, Below wr.heap.size wr W → W.cell? ⟨wL.heap.size, 1, none⟩ = some (.int .i64 (x1 : Int)) ∧ W.cell? ⟨wL.heap.size, 2, none⟩ = some (.int .i64 (x2 : Int)) ∧ W.cell? ⟨wL.heap.size, 3, none⟩ = some (.int .i64 (x3 : Int))) := hide fun W h => ⟨(h.cell (p := ⟨wL.heap.size, 1, none⟩) HNl.out).trans n1, (h.cell (p := ⟨wL.heap.size, 2, none⟩) HNl.out).trans n2, (h.cell (p := ⟨wL.heap.size, 3, none⟩) HNl.out).trans n3⟩
      clear n1 n2 n3
      go_cut [205] (fun v wx => v = .bool false ∧ Below wr.heap.size wr wx)
      case first =>
        cases hlk : look bk (i : Int) with
        | none =>
          have e1 : lcd bk i = 83 := by unfold lcd; rw [hlk]; rfl
          clear HLl hlk HcA HBw
          have HT0 : Hid (Below wr.heap.size wr wr.drew) := hide ⟨rfl, rfl, rfl, Nat.le_refl _, fun _ _ => rfl⟩
          refine wp_region_held_drew (S := fun W => Below wr.heap.size wr W) (by kernel_rfl) HT0.out (fun _ => ?_)
          generalize wr.drew = wq0 at *
          refine hd_take 0 (o := ⟨some 171, _, _, _, _, _⟩) (.int .i64 (lcd bk i)) (by kernel_rfl) (by kernel_rfl) (by kernel_rfl) rfl (by rfl) (fun W hSw => by go_simp) (fun _ _ _ h => h) HT0.out ?_
          simp only [Act.put, List.setIfInBounds_toArray, List.set_cons_zero, List.set_cons_succ]
          refine hd_take 1 (o := ⟨some 172, _, _, _, _, _⟩) (.bool false) (by kernel_rfl) (by kernel_rfl) (by kernel_rfl) rfl (by rfl) (fun W hSw => by go_simp) (fun _ _ _ h => h) HT0.out ?_
          simp only [Act.put, List.setIfInBounds_toArray, List.set_cons_zero, List.set_cons_succ]
          clear e1
          refine hd_take 2 (o := ⟨some 173, _, _, _, _, _⟩) (.bool false) (by kernel_rfl) (by kernel_rfl) (by kernel_rfl) rfl (by rfl) (fun W hSw => by go_simp) (fun _ _ _ h => h) HT0.out ?_
          simp only [Act.put, List.setIfInBounds_toArray, List.set_cons_zero, List.set_cons_succ]
          refine hd_skip 3 (o := ⟨some 174, _, _, _, _, _⟩) (by kernel_rfl) (by kernel_rfl) (by kernel_rfl) rfl (by rfl) (fun _ _ _ h => h) HT0.out ?_
          simp only [Act.put, List.setIfInBounds_toArray, List.set_cons_zero, List.set_cons_succ]
          refine hd_skip 4 (o := ⟨some 175, _, _, _, _, _⟩) (by kernel_rfl) (by kernel_rfl) (by kernel_rfl) rfl (by rfl) (fun _ _ _ h => h) HT0.out ?_
          simp only [Act.put, List.setIfInBounds_toArray, List.set_cons_zero, List.set_cons_succ]
          refine hd_skip 5 (o := ⟨some 176, _, _, _, _, _⟩) (by kernel_rfl) (by kernel_rfl) (by kernel_rfl) rfl (by rfl) (fun _ _ _ h => h) HT0.out ?_
          simp only [Act.put, List.setIfInBounds_toArray, List.set_cons_zero, List.set_cons_succ]
          refine hd_skip 6 (o := ⟨some 177, _, _, _, _, _⟩) (by kernel_rfl) (by kernel_rfl) (by kernel_rfl) rfl (by rfl) (fun _ _ _ h => h) HT0.out ?_
          simp only [Act.put, List.setIfInBounds_toArray, List.set_cons_zero, List.set_cons_succ]
          refine hd_skip 7 (o := ⟨some 178, _, _, _, _, _⟩) (by kernel_rfl) (by kernel_rfl) (by kernel_rfl) rfl (by rfl) (fun _ _ _ h => h) HT0.out ?_
          simp only [Act.put, List.setIfInBounds_toArray, List.set_cons_zero, List.set_cons_succ]
          refine hd_skip 8 (o := ⟨some 179, _, _, _, _, _⟩) (by kernel_rfl) (by kernel_rfl) (by kernel_rfl) rfl (by rfl) (fun _ _ _ h => h) HT0.out ?_
          simp only [Act.put, List.setIfInBounds_toArray, List.set_cons_zero, List.set_cons_succ]
          refine hd_skip 9 (o := ⟨some 180, _, _, _, _, _⟩) (by kernel_rfl) (by kernel_rfl) (by kernel_rfl) rfl (by rfl) (fun _ _ _ h => h) HT0.out ?_
          simp only [Act.put, List.setIfInBounds_toArray, List.set_cons_zero, List.set_cons_succ]
          refine hd_take 10 (o := ⟨some 181, _, _, _, _, _⟩) (.bool false) (by kernel_rfl) (by kernel_rfl) (by kernel_rfl) rfl (by rfl) (fun W hSw => by go_simp) (fun _ _ _ h => h) HT0.out ?_
          simp only [Act.put, List.setIfInBounds_toArray, List.set_cons_zero, List.set_cons_succ]
          refine hd_take 11 (o := ⟨some 182, _, _, _, _, _⟩) (.bool false) (by kernel_rfl) (by kernel_rfl) (by kernel_rfl) rfl (by rfl) (fun W hSw => by go_simp) (fun _ _ _ h => h) HT0.out ?_
          simp only [Act.put, List.setIfInBounds_toArray, List.set_cons_zero, List.set_cons_succ]
          refine hd_take 12 (o := ⟨some 183, _, _, _, _, _⟩) (.pointer (some ⟨B, 0, none⟩)) (by kernel_rfl) (by kernel_rfl) (by kernel_rfl) rfl (by rfl) (fun W hSw => by go_simp) (fun _ _ _ h => h) HT0.out ?_
          simp only [Act.put, List.setIfInBounds_toArray, List.set_cons_zero, List.set_cons_succ]
          refine hd_take 13 (o := ⟨some 184, _, _, _, _, _⟩) (.int .i64 (i : Int)) (by kernel_rfl) (by kernel_rfl) (by kernel_rfl) rfl (by rfl) (fun W hSw => by go_simp) (fun _ _ _ h => h) HT0.out ?_
          simp only [Act.put, List.setIfInBounds_toArray, List.set_cons_zero, List.set_cons_succ]
          refine hd_take 15 (o := ⟨some 186, _, _, _, _, _⟩) (.pointer (some ⟨wL.heap.size, 1, none⟩)) (by kernel_rfl) (by kernel_rfl) (by kernel_rfl) rfl (by rfl) (fun W hSw => by go_simp) (fun _ _ _ h => h) HT0.out ?_
          simp only [Act.put, List.setIfInBounds_toArray, List.set_cons_zero, List.set_cons_succ]
          refine hd_take 16 (o := ⟨some 187, _, _, _, _, _⟩) (.int .i64 (x1 : Int)) (by kernel_rfl) (by kernel_rfl) (by kernel_rfl) rfl (by rfl) (fun W hSw => by obtain ⟨q1, q2, q3⟩ := HN3.out W hSw; go_simp) (fun _ _ _ h => h) HT0.out ?_
          simp only [Act.put, List.setIfInBounds_toArray, List.set_cons_zero, List.set_cons_succ]
          refine hd_call 14 (o := ⟨some 185, _, _, _, _, _⟩) (by kernel_rfl) rfl (by rfl) (fun K hK => ?_)
          go_simp
          go_wp2_with (go_at_call 12; refine (HX1.out _ HT0.out).mono ?_; rintro e1 wq1 ⟨rfl, hbq⟩)
          have HT1 := hide (HT0.out.trans (hbq.mono HT0.out.size))
          clear hbq
          refine hK _ _ HT1.out ?_
          clear hK K
          try simp only [Act.put, List.setIfInBounds_toArray, List.set_cons_zero, List.set_cons_succ]
          refine hd_take 17 (o := ⟨some 188, _, _, _, _, _⟩) (.bool false) (by kernel_rfl) (by kernel_rfl) (by kernel_rfl) rfl (by rfl) (fun W hSw => by go_simp) (fun _ _ _ h => h) HT1.out ?_
          simp only [Act.put, List.setIfInBounds_toArray, List.set_cons_zero, List.set_cons_succ]
          refine hd_take 18 (o := ⟨some 189, _, _, _, _, _⟩) (.bool false) (by kernel_rfl) (by kernel_rfl) (by kernel_rfl) rfl (by rfl) (fun W hSw => by go_simp) (fun _ _ _ h => h) HT1.out ?_
          simp only [Act.put, List.setIfInBounds_toArray, List.set_cons_zero, List.set_cons_succ]
          refine hd_take 19 (o := ⟨some 190, _, _, _, _, _⟩) (.bool false) (by kernel_rfl) (by kernel_rfl) (by kernel_rfl) rfl (by rfl) (fun W hSw => by go_simp) (fun _ _ _ h => h) HT1.out ?_
          simp only [Act.put, List.setIfInBounds_toArray, List.set_cons_zero, List.set_cons_succ]
          refine hd_take 20 (o := ⟨some 191, _, _, _, _, _⟩) (.pointer (some ⟨B, 0, none⟩)) (by kernel_rfl) (by kernel_rfl) (by kernel_rfl) rfl (by rfl) (fun W hSw => by go_simp) (fun _ _ _ h => h) HT1.out ?_
          simp only [Act.put, List.setIfInBounds_toArray, List.set_cons_zero, List.set_cons_succ]
          refine hd_take 21 (o := ⟨some 192, _, _, _, _, _⟩) (.int .i64 (i : Int)) (by kernel_rfl) (by kernel_rfl) (by kernel_rfl) rfl (by rfl) (fun W hSw => by go_simp) (fun _ _ _ h => h) HT1.out ?_
          simp only [Act.put, List.setIfInBounds_toArray, List.set_cons_zero, List.set_cons_succ]
          refine hd_take 23 (o := ⟨some 194, _, _, _, _, _⟩) (.pointer (some ⟨wL.heap.size, 2, none⟩)) (by kernel_rfl) (by kernel_rfl) (by kernel_rfl) rfl (by rfl) (fun W hSw => by go_simp) (fun _ _ _ h => h) HT1.out ?_
          simp only [Act.put, List.setIfInBounds_toArray, List.set_cons_zero, List.set_cons_succ]
          refine hd_take 24 (o := ⟨some 195, _, _, _, _, _⟩) (.int .i64 (x2 : Int)) (by kernel_rfl) (by kernel_rfl) (by kernel_rfl) rfl (by rfl) (fun W hSw => by obtain ⟨q1, q2, q3⟩ := HN3.out W hSw; go_simp) (fun _ _ _ h => h) HT1.out ?_
          simp only [Act.put, List.setIfInBounds_toArray, List.set_cons_zero, List.set_cons_succ]
          refine hd_call 22 (o := ⟨some 193, _, _, _, _, _⟩) (by kernel_rfl) rfl (by rfl) (fun K hK => ?_)
          go_simp
          go_wp2_with (go_at_call 12; refine (HX2.out _ HT1.out).mono ?_; rintro e1 wq2 ⟨rfl, hbq⟩)
          have HT2 := hide (HT1.out.trans (hbq.mono HT1.out.size))
          clear hbq
          refine hK _ _ HT2.out ?_
          clear hK K
          try simp only [Act.put, List.setIfInBounds_toArray, List.set_cons_zero, List.set_cons_succ]
          refine hd_take 25 (o := ⟨some 196, _, _, _, _, _⟩) (.bool false) (by kernel_rfl) (by kernel_rfl) (by kernel_rfl) rfl (by rfl) (fun W hSw => by go_simp) (fun _ _ _ h => h) HT2.out ?_
          simp only [Act.put, List.setIfInBounds_toArray, List.set_cons_zero, List.set_cons_succ]
          refine hd_take 26 (o := ⟨some 197, _, _, _, _, _⟩) (.bool false) (by kernel_rfl) (by kernel_rfl) (by kernel_rfl) rfl (by rfl) (fun W hSw => by go_simp) (fun _ _ _ h => h) HT2.out ?_
          simp only [Act.put, List.setIfInBounds_toArray, List.set_cons_zero, List.set_cons_succ]
          refine hd_take 27 (o := ⟨some 198, _, _, _, _, _⟩) (.bool false) (by kernel_rfl) (by kernel_rfl) (by kernel_rfl) rfl (by rfl) (fun W hSw => by go_simp) (fun _ _ _ h => h) HT2.out ?_
          simp only [Act.put, List.setIfInBounds_toArray, List.set_cons_zero, List.set_cons_succ]
          refine hd_take 28 (o := ⟨some 199, _, _, _, _, _⟩) (.pointer (some ⟨B, 0, none⟩)) (by kernel_rfl) (by kernel_rfl) (by kernel_rfl) rfl (by rfl) (fun W hSw => by go_simp) (fun _ _ _ h => h) HT2.out ?_
          simp only [Act.put, List.setIfInBounds_toArray, List.set_cons_zero, List.set_cons_succ]
          refine hd_take 29 (o := ⟨some 200, _, _, _, _, _⟩) (.int .i64 (i : Int)) (by kernel_rfl) (by kernel_rfl) (by kernel_rfl) rfl (by rfl) (fun W hSw => by go_simp) (fun _ _ _ h => h) HT2.out ?_
          simp only [Act.put, List.setIfInBounds_toArray, List.set_cons_zero, List.set_cons_succ]
          refine hd_take 31 (o := ⟨some 202, _, _, _, _, _⟩) (.pointer (some ⟨wL.heap.size, 3, none⟩)) (by kernel_rfl) (by kernel_rfl) (by kernel_rfl) rfl (by rfl) (fun W hSw => by go_simp) (fun _ _ _ h => h) HT2.out ?_
          simp only [Act.put, List.setIfInBounds_toArray, List.set_cons_zero, List.set_cons_succ]
          refine hd_take 32 (o := ⟨some 203, _, _, _, _, _⟩) (.int .i64 (x3 : Int)) (by kernel_rfl) (by kernel_rfl) (by kernel_rfl) rfl (by rfl) (fun W hSw => by obtain ⟨q1, q2, q3⟩ := HN3.out W hSw; go_simp) (fun _ _ _ h => h) HT2.out ?_
          simp only [Act.put, List.setIfInBounds_toArray, List.set_cons_zero, List.set_cons_succ]
          refine hd_call 30 (o := ⟨some 201, _, _, _, _, _⟩) (by kernel_rfl) rfl (by rfl) (fun K hK => ?_)
          go_simp
          go_wp2_with (go_at_call 12; refine (HX3.out _ HT2.out).mono ?_; rintro e1 wq3 ⟨rfl, hbq⟩)
          have HT3 := hide (HT2.out.trans (hbq.mono HT2.out.size))
          clear hbq
          refine hK _ _ HT3.out ?_
          clear hK K
          try simp only [Act.put, List.setIfInBounds_toArray, List.set_cons_zero, List.set_cons_succ]
          refine hd_take 33 (o := ⟨some 204, _, _, _, _, _⟩) (.bool false) (by kernel_rfl) (by kernel_rfl) (by kernel_rfl) rfl (by rfl) (fun W hSw => by go_simp) (fun _ _ _ h => h) HT3.out ?_
          simp only [Act.put, List.setIfInBounds_toArray, List.set_cons_zero, List.set_cons_succ]
          refine hd_take 34 (o := ⟨some 205, _, _, _, _, _⟩) (.bool false) (by kernel_rfl) (by kernel_rfl) (by kernel_rfl) rfl (by rfl) (fun W hSw => by go_simp) (fun _ _ _ h => h) HT3.out ?_
          simp only [Act.put, List.setIfInBounds_toArray, List.set_cons_zero, List.set_cons_succ]
          refine wpAnyH_done (by kernel_rfl) ?_ _
          go_wp2_with fail
          go_meet
          case rel => exact ⟨rfl, HT3.out⟩
        | some l =>
          have e1 : lcd bk i = 0 := by unfold lcd; rw [hlk]; rfl
          obtain ⟨i', ei, hli⟩ := look_open hlk
          obtain rfl : i = i' := by omega
          have HRm := hide (fun W (h : Below wr.heap.size wr W) => room_any W F B bk (HBw.out.below h) i l hli)
          rw [HLl.out l hli] at HRm
          clear HLl hlk HcA HBw ei hli
          have HT0 : Hid (Below wr.heap.size wr wr.drew) := hide ⟨rfl, rfl, rfl, Nat.le_refl _, fun _ _ => rfl⟩
          refine wp_region_held_drew (S := fun W => Below wr.heap.size wr W) (by kernel_rfl) HT0.out (fun _ => ?_)
          generalize wr.drew = wq0 at *
          refine hd_take 0 (o := ⟨some 171, _, _, _, _, _⟩) (.int .i64 (lcd bk i)) (by kernel_rfl) (by kernel_rfl) (by kernel_rfl) rfl (by rfl) (fun W hSw => by go_simp) (fun _ _ _ h => h) HT0.out ?_
          simp only [Act.put, List.setIfInBounds_toArray, List.set_cons_zero, List.set_cons_succ]
          refine hd_take 1 (o := ⟨some 172, _, _, _, _, _⟩) (.bool true) (by kernel_rfl) (by kernel_rfl) (by kernel_rfl) rfl (by rfl) (fun W hSw => by go_simp) (fun _ _ _ h => h) HT0.out ?_
          simp only [Act.put, List.setIfInBounds_toArray, List.set_cons_zero, List.set_cons_succ]
          clear e1
          refine hd_take 2 (o := ⟨some 173, _, _, _, _, _⟩) (.bool true) (by kernel_rfl) (by kernel_rfl) (by kernel_rfl) rfl (by rfl) (fun W hSw => by go_simp) (fun _ _ _ h => h) HT0.out ?_
          simp only [Act.put, List.setIfInBounds_toArray, List.set_cons_zero, List.set_cons_succ]
          refine hd_take 3 (o := ⟨some 174, _, _, _, _, _⟩) (.pointer (some ⟨B, 0, none⟩)) (by kernel_rfl) (by kernel_rfl) (by kernel_rfl) rfl (by rfl) (fun W hSw => by go_simp) (fun _ _ _ h => h) HT0.out ?_
          simp only [Act.put, List.setIfInBounds_toArray, List.set_cons_zero, List.set_cons_succ]
          refine hd_take 4 (o := ⟨some 175, _, _, _, _, _⟩) (.int .i64 (i : Int)) (by kernel_rfl) (by kernel_rfl) (by kernel_rfl) rfl (by rfl) (fun W hSw => by go_simp) (fun _ _ _ h => h) HT0.out ?_
          simp only [Act.put, List.setIfInBounds_toArray, List.set_cons_zero, List.set_cons_succ]
          refine hd_take 6 (o := ⟨some 177, _, _, _, _, _⟩) (.slice am j cm) (by kernel_rfl) (by kernel_rfl) (by kernel_rfl) rfl (by rfl) (fun W hSw => by go_simp) (fun _ _ _ h => h) HT0.out ?_
          simp only [Act.put, List.setIfInBounds_toArray, List.set_cons_zero, List.set_cons_succ]
          refine hd_take 7 (o := ⟨some 178, _, _, _, _, _⟩) (.int .i64 (j : Int)) (by kernel_rfl) (by kernel_rfl) (by kernel_rfl) rfl (by rfl) (fun W hSw => by go_simp) (fun _ _ _ h => h) HT0.out ?_
          simp only [Act.put, List.setIfInBounds_toArray, List.set_cons_zero, List.set_cons_succ]
          refine hd_take 8 (o := ⟨some 179, _, _, _, _, _⟩) (.int .i64 (48 - (j : Int))) (by kernel_rfl) (by kernel_rfl) (by kernel_rfl) rfl (by rfl) (fun W hSw => by go_simp; simp [IntKind.wrap, IntKind.signed, IntKind.bits]; omega) (fun _ _ _ h => h) HT0.out ?_
          simp only [Act.put, List.setIfInBounds_toArray, List.set_cons_zero, List.set_cons_succ]
          refine hd_call 5 (o := ⟨some 176, _, _, _, _, _⟩) (by kernel_rfl) rfl (by rfl) (fun K hK => ?_)
          go_simp
          go_wp2_with (go_at_call 11; refine (HRm.out _ HT0.out).mono ?_; rintro e1 wq1 ⟨rfl, rfl⟩)
          refine hK _ _ HT0.out ?_
          clear hK K
          try simp only [Act.put, List.setIfInBounds_toArray, List.set_cons_zero, List.set_cons_succ]
          refine hd_take 9 (o := ⟨some 180, _, _, _, _, _⟩) (.bool false) (by kernel_rfl) (by kernel_rfl) (by kernel_rfl) rfl (by rfl) (fun W hSw => by go_simp) (fun _ _ _ h => h) HT0.out ?_
          simp only [Act.put, List.setIfInBounds_toArray, List.set_cons_zero, List.set_cons_succ]
          refine hd_take 10 (o := ⟨some 181, _, _, _, _, _⟩) (.bool false) (by kernel_rfl) (by kernel_rfl) (by kernel_rfl) rfl (by rfl) (fun W hSw => by go_simp) (fun _ _ _ h => h) HT0.out ?_
          simp only [Act.put, List.setIfInBounds_toArray, List.set_cons_zero, List.set_cons_succ]
          refine hd_take 11 (o := ⟨some 182, _, _, _, _, _⟩) (.bool false) (by kernel_rfl) (by kernel_rfl) (by kernel_rfl) rfl (by rfl) (fun W hSw => by go_simp) (fun _ _ _ h => h) HT0.out ?_
          simp only [Act.put, List.setIfInBounds_toArray, List.set_cons_zero, List.set_cons_succ]
          refine hd_take 12 (o := ⟨some 183, _, _, _, _, _⟩) (.pointer (some ⟨B, 0, none⟩)) (by kernel_rfl) (by kernel_rfl) (by kernel_rfl) rfl (by rfl) (fun W hSw => by go_simp) (fun _ _ _ h => h) HT0.out ?_
          simp only [Act.put, List.setIfInBounds_toArray, List.set_cons_zero, List.set_cons_succ]
          refine hd_take 13 (o := ⟨some 184, _, _, _, _, _⟩) (.int .i64 (i : Int)) (by kernel_rfl) (by kernel_rfl) (by kernel_rfl) rfl (by rfl) (fun W hSw => by go_simp) (fun _ _ _ h => h) HT0.out ?_
          simp only [Act.put, List.setIfInBounds_toArray, List.set_cons_zero, List.set_cons_succ]
          refine hd_take 15 (o := ⟨some 186, _, _, _, _, _⟩) (.pointer (some ⟨wL.heap.size, 1, none⟩)) (by kernel_rfl) (by kernel_rfl) (by kernel_rfl) rfl (by rfl) (fun W hSw => by go_simp) (fun _ _ _ h => h) HT0.out ?_
          simp only [Act.put, List.setIfInBounds_toArray, List.set_cons_zero, List.set_cons_succ]
          refine hd_take 16 (o := ⟨some 187, _, _, _, _, _⟩) (.int .i64 (x1 : Int)) (by kernel_rfl) (by kernel_rfl) (by kernel_rfl) rfl (by rfl) (fun W hSw => by obtain ⟨q1, q2, q3⟩ := HN3.out W hSw; go_simp) (fun _ _ _ h => h) HT0.out ?_
          simp only [Act.put, List.setIfInBounds_toArray, List.set_cons_zero, List.set_cons_succ]
          refine hd_call 14 (o := ⟨some 185, _, _, _, _, _⟩) (by kernel_rfl) rfl (by rfl) (fun K hK => ?_)
          go_simp
          go_wp2_with (go_at_call 12; refine (HX1.out _ HT0.out).mono ?_; rintro e1 wq2 ⟨rfl, hbq⟩)
          have HT2 := hide (HT0.out.trans (hbq.mono HT0.out.size))
          clear hbq
          refine hK _ _ HT2.out ?_
          clear hK K
          try simp only [Act.put, List.setIfInBounds_toArray, List.set_cons_zero, List.set_cons_succ]
          refine hd_take 17 (o := ⟨some 188, _, _, _, _, _⟩) (.bool false) (by kernel_rfl) (by kernel_rfl) (by kernel_rfl) rfl (by rfl) (fun W hSw => by go_simp) (fun _ _ _ h => h) HT2.out ?_
          simp only [Act.put, List.setIfInBounds_toArray, List.set_cons_zero, List.set_cons_succ]
          refine hd_take 18 (o := ⟨some 189, _, _, _, _, _⟩) (.bool false) (by kernel_rfl) (by kernel_rfl) (by kernel_rfl) rfl (by rfl) (fun W hSw => by go_simp) (fun _ _ _ h => h) HT2.out ?_
          simp only [Act.put, List.setIfInBounds_toArray, List.set_cons_zero, List.set_cons_succ]
          refine hd_take 19 (o := ⟨some 190, _, _, _, _, _⟩) (.bool false) (by kernel_rfl) (by kernel_rfl) (by kernel_rfl) rfl (by rfl) (fun W hSw => by go_simp) (fun _ _ _ h => h) HT2.out ?_
          simp only [Act.put, List.setIfInBounds_toArray, List.set_cons_zero, List.set_cons_succ]
          refine hd_take 20 (o := ⟨some 191, _, _, _, _, _⟩) (.pointer (some ⟨B, 0, none⟩)) (by kernel_rfl) (by kernel_rfl) (by kernel_rfl) rfl (by rfl) (fun W hSw => by go_simp) (fun _ _ _ h => h) HT2.out ?_
          simp only [Act.put, List.setIfInBounds_toArray, List.set_cons_zero, List.set_cons_succ]
          refine hd_take 21 (o := ⟨some 192, _, _, _, _, _⟩) (.int .i64 (i : Int)) (by kernel_rfl) (by kernel_rfl) (by kernel_rfl) rfl (by rfl) (fun W hSw => by go_simp) (fun _ _ _ h => h) HT2.out ?_
          simp only [Act.put, List.setIfInBounds_toArray, List.set_cons_zero, List.set_cons_succ]
          refine hd_take 23 (o := ⟨some 194, _, _, _, _, _⟩) (.pointer (some ⟨wL.heap.size, 2, none⟩)) (by kernel_rfl) (by kernel_rfl) (by kernel_rfl) rfl (by rfl) (fun W hSw => by go_simp) (fun _ _ _ h => h) HT2.out ?_
          simp only [Act.put, List.setIfInBounds_toArray, List.set_cons_zero, List.set_cons_succ]
          refine hd_take 24 (o := ⟨some 195, _, _, _, _, _⟩) (.int .i64 (x2 : Int)) (by kernel_rfl) (by kernel_rfl) (by kernel_rfl) rfl (by rfl) (fun W hSw => by obtain ⟨q1, q2, q3⟩ := HN3.out W hSw; go_simp) (fun _ _ _ h => h) HT2.out ?_
          simp only [Act.put, List.setIfInBounds_toArray, List.set_cons_zero, List.set_cons_succ]
          refine hd_call 22 (o := ⟨some 193, _, _, _, _, _⟩) (by kernel_rfl) rfl (by rfl) (fun K hK => ?_)
          go_simp
          go_wp2_with (go_at_call 12; refine (HX2.out _ HT2.out).mono ?_; rintro e1 wq3 ⟨rfl, hbq⟩)
          have HT3 := hide (HT2.out.trans (hbq.mono HT2.out.size))
          clear hbq
          refine hK _ _ HT3.out ?_
          clear hK K
          try simp only [Act.put, List.setIfInBounds_toArray, List.set_cons_zero, List.set_cons_succ]
          refine hd_take 25 (o := ⟨some 196, _, _, _, _, _⟩) (.bool false) (by kernel_rfl) (by kernel_rfl) (by kernel_rfl) rfl (by rfl) (fun W hSw => by go_simp) (fun _ _ _ h => h) HT3.out ?_
          simp only [Act.put, List.setIfInBounds_toArray, List.set_cons_zero, List.set_cons_succ]
          refine hd_take 26 (o := ⟨some 197, _, _, _, _, _⟩) (.bool false) (by kernel_rfl) (by kernel_rfl) (by kernel_rfl) rfl (by rfl) (fun W hSw => by go_simp) (fun _ _ _ h => h) HT3.out ?_
          simp only [Act.put, List.setIfInBounds_toArray, List.set_cons_zero, List.set_cons_succ]
          refine hd_take 27 (o := ⟨some 198, _, _, _, _, _⟩) (.bool false) (by kernel_rfl) (by kernel_rfl) (by kernel_rfl) rfl (by rfl) (fun W hSw => by go_simp) (fun _ _ _ h => h) HT3.out ?_
          simp only [Act.put, List.setIfInBounds_toArray, List.set_cons_zero, List.set_cons_succ]
          refine hd_take 28 (o := ⟨some 199, _, _, _, _, _⟩) (.pointer (some ⟨B, 0, none⟩)) (by kernel_rfl) (by kernel_rfl) (by kernel_rfl) rfl (by rfl) (fun W hSw => by go_simp) (fun _ _ _ h => h) HT3.out ?_
          simp only [Act.put, List.setIfInBounds_toArray, List.set_cons_zero, List.set_cons_succ]
          refine hd_take 29 (o := ⟨some 200, _, _, _, _, _⟩) (.int .i64 (i : Int)) (by kernel_rfl) (by kernel_rfl) (by kernel_rfl) rfl (by rfl) (fun W hSw => by go_simp) (fun _ _ _ h => h) HT3.out ?_
          simp only [Act.put, List.setIfInBounds_toArray, List.set_cons_zero, List.set_cons_succ]
          refine hd_take 31 (o := ⟨some 202, _, _, _, _, _⟩) (.pointer (some ⟨wL.heap.size, 3, none⟩)) (by kernel_rfl) (by kernel_rfl) (by kernel_rfl) rfl (by rfl) (fun W hSw => by go_simp) (fun _ _ _ h => h) HT3.out ?_
          simp only [Act.put, List.setIfInBounds_toArray, List.set_cons_zero, List.set_cons_succ]
          refine hd_take 32 (o := ⟨some 203, _, _, _, _, _⟩) (.int .i64 (x3 : Int)) (by kernel_rfl) (by kernel_rfl) (by kernel_rfl) rfl (by rfl) (fun W hSw => by obtain ⟨q1, q2, q3⟩ := HN3.out W hSw; go_simp) (fun _ _ _ h => h) HT3.out ?_
          simp only [Act.put, List.setIfInBounds_toArray, List.set_cons_zero, List.set_cons_succ]
          refine hd_call 30 (o := ⟨some 201, _, _, _, _, _⟩) (by kernel_rfl) rfl (by rfl) (fun K hK => ?_)
          go_simp
          go_wp2_with (go_at_call 12; refine (HX3.out _ HT3.out).mono ?_; rintro e1 wq4 ⟨rfl, hbq⟩)
          have HT4 := hide (HT3.out.trans (hbq.mono HT3.out.size))
          clear hbq
          refine hK _ _ HT4.out ?_
          clear hK K
          try simp only [Act.put, List.setIfInBounds_toArray, List.set_cons_zero, List.set_cons_succ]
          refine hd_take 33 (o := ⟨some 204, _, _, _, _, _⟩) (.bool false) (by kernel_rfl) (by kernel_rfl) (by kernel_rfl) rfl (by rfl) (fun W hSw => by go_simp) (fun _ _ _ h => h) HT4.out ?_
          simp only [Act.put, List.setIfInBounds_toArray, List.set_cons_zero, List.set_cons_succ]
          refine hd_take 34 (o := ⟨some 205, _, _, _, _, _⟩) (.bool false) (by kernel_rfl) (by kernel_rfl) (by kernel_rfl) rfl (by rfl) (fun W hSw => by go_simp) (fun _ _ _ h => h) HT4.out ?_
          simp only [Act.put, List.setIfInBounds_toArray, List.set_cons_zero, List.set_cons_succ]
          refine wpAnyH_done (by kernel_rfl) ?_ _
          go_wp2_with fail
          go_meet
          case rel => exact ⟨rfl, HT4.out⟩
      case rest =>
      have hb5 := hcut.2
      have hvc := hcut.1
      subst hvc
      have HE : Hid (Below wA.heap.size wA wc) := hide (HL0.out.trans ((K4.out.trans (hb5.mono K4.out.size)).mono HL0.out.size))
      clear hcut hb5 K4 HL0
      go_wp2
      go_roundw
      case rel =>
        first
          | exact ⟨i + 1, by omega, by go_num, HE⟩
          | ((repeat apply Exists.intro); refine ⟨?_, rfl⟩; exact ⟨i + 1, by omega, by go_num, HE⟩)
      case measure => simp [intOf]; omega
  · have hd : decide ((i : Int) < 16) = false := by simp; omega
    clear hi hi16
    go_wp2_with fail
    go_loopw [17] (fun x wr => ∃ p : Nat, p ≤ LA ∧ x = .int .i64 (p : Int) ∧ Hid (Below wA.heap.size wA wr)) (fun x _ => LA - (intOf x).toNat)
    case atStart => exact ⟨0, by omega, rfl, K2⟩
    case round =>
    clear K2
    obtain ⟨p, hp, rfl, K5⟩ := hrel
    by_cases hpl : p < LA
    · have hpl' : p < (Go.Proofs.Ytjpnjgbcmodnoaa.hl bk 16).length := by rw [HLA.out]; exact hpl
      have hpi : (p : Int) < (LA : Int) := by omega
      have hwp : p * 6 + 5 < LA * 6 := by omega
      obtain ⟨g, ham, h2, -, -, h5, h6, -, -⟩ := HCA.out p hpl'
      have HCq : Hid (∀ q (hq : q < (Go.Proofs.Ytjpnjgbcmodnoaa.hl bk 16).length) W, Below wA.heap.size wA W → W.cell? ⟨g, q * 6 + 2, none⟩ = some (.int .i64 (Go.Proofs.Ytjpnjgbcmodnoaa.hl bk 16)[q].2.2.k) ∧ W.cell? ⟨g, q * 6 + 3, none⟩ = some (.int .i64 (Go.Proofs.Ytjpnjgbcmodnoaa.hl bk 16)[q].2.2.o)) := by
        refine hide fun q hq W hW => ?_
        obtain ⟨g', e1, e2, -, -, e5, e6, -, -⟩ := HCA.out q hq
        have : g = g' := by rw [ham] at e1; cases e1; rfl
        subst this
        exact ⟨(hW.cell (p := ⟨g, q * 6 + 2, none⟩) e2).trans e5, (hW.cell (p := ⟨g, q * 6 + 3, none⟩) e2).trans e6⟩
      have HPp : Hid (∀ W, Below wA.heap.size wA W → W.cell? ⟨g, p * 6 + 2, none⟩ = some (.int .i64 (Go.Proofs.Ytjpnjgbcmodnoaa.hl bk 16)[p].2.2.k) ∧ W.cell? ⟨g, p * 6 + 3, none⟩ = some (.int .i64 (Go.Proofs.Ytjpnjgbcmodnoaa.hl bk 16)[p].2.2.o)) := hide fun W hW => HCq.out p hpl' W hW
      generalize (Go.Proofs.Ytjpnjgbcmodnoaa.hl bk 16)[p].2.2.k = k0 at *
      generalize (Go.Proofs.Ytjpnjgbcmodnoaa.hl bk 16)[p].2.2.o = o0 at *
      have HPls := hide (pls_hl HS.out.book.blen (fun r => decide (r.k = k0) && decide (r.o = o0)))
      obtain ⟨ls, hls⟩ : ∃ l, Go.Proofs.Ytjpnjgbcmodnoaa.hl bk 16 = l := ⟨_, rfl⟩
      rw [hls] at HCq HPls
      have HLs : Hid (ls.length = LA) := hide (by rw [← hls]; exact HLA.out)
      clear hls hpl'
      subst ham
      clear h2 h5 h6
      go_wp2_with fail
      go_loopw [18, 19] (fun x z wr => ∃ q : Nat, q ≤ LA ∧ x = .int .i64 (((ls.take q).countP (fun y => decide (y.2.2.k = k0) && decide (y.2.2.o = o0)) : Nat) : Int) ∧ z = .int .i64 (q : Int) ∧ Hid (Below wA.heap.size wA wr)) (fun _ z _ => LA - (intOf z).toNat)
      case atStart => exact ⟨0, by omega, by simp, rfl, K5⟩
      case round =>
      clear K5
      obtain ⟨q, hq, rfl, rfl, K6⟩ := hrel
      by_cases hql : q < LA
      · have hql' : q < ls.length := by rw [HLs.out]; exact hql
        have hqi : (q : Int) < (LA : Int) := by omega
        have hwq : q * 6 + 5 < LA * 6 := by omega
        obtain ⟨c2, c3⟩ := HCq.out q hql' wr K6.out
        obtain ⟨b2, b3⟩ := HPp.out wr K6.out
        have HT : Hid ((ls.take (q + 1)).countP (fun y => decide (y.2.2.k = k0) && decide (y.2.2.o = o0)) = (ls.take q).countP (fun y => decide (y.2.2.k = k0) && decide (y.2.2.o = o0)) + if (decide (ls[q].2.2.k = k0) && decide (ls[q].2.2.o = o0)) = true then 1 else 0) := by
          refine hide ?_
          rw [List.take_add_one, List.getElem?_eq_getElem hql', List.countP_append]
          simp [List.countP_cons]
        have hcn : (ls.take q).countP (fun y => decide (y.2.2.k = k0) && decide (y.2.2.o = o0)) ≤ 768 := by
          refine Nat.le_trans List.countP_le_length ?_
          rw [List.length_take]
          omega
        generalize ls[q].2.2.k = k1 at *
        generalize ls[q].2.2.o = o1 at *
        obtain ⟨cn, hcnq⟩ : ∃ c, (ls.take q).countP (fun y => decide (y.2.2.k = k0) && decide (y.2.2.o = o0)) = c := ⟨_, rfl⟩
        rw [hcnq] at hcn HT
        rw [hcnq]
        clear hcnq hql'
        have hbB := hide (fun n => below_drewN K6.out n)
        clear K6
        by_cases e1 : k1 = k0
        · by_cases e2 : o1 = o0
          · as_aux_lemma =>
              have t1 : decide (k1 = k0) = true := by simp [e1]
              have t2 : decide (o1 = o0) = true := by simp [e2]
              have HT2 : Hid ((ls.take (q + 1)).countP (fun y => decide (y.2.2.k = k0) && decide (y.2.2.o = o0)) = cn + 1) := by rw [t1, t2] at HT; exact HT
              clear HT
              go_upto_region 35 with fail
              go_quiet (fail)
              have HB := hide (hbB.out nq)
              clear hbB
              go_wp2
              go_roundw
              case rel =>
                first
                  | exact ⟨q + 1, by omega, by rw [HT2.out]; go_num, by go_num, HB⟩
                  | ((repeat apply Exists.intro); refine ⟨?_, rfl⟩; exact ⟨q + 1, by omega, by rw [HT2.out]; go_num, by go_num, HB⟩)
              case measure => simp [intOf]; omega
          · as_aux_lemma =>
              have t1 : decide (k1 = k0) = true := by simp [e1]
              have t2 : decide (o1 = o0) = false := by simp [e2]
              have HT2 : Hid ((ls.take (q + 1)).countP (fun y => decide (y.2.2.k = k0) && decide (y.2.2.o = o0)) = cn) := by rw [t1, t2] at HT; exact HT
              clear HT
              go_upto_region 35 with fail
              go_quiet (fail)
              have HB := hide (hbB.out nq)
              clear hbB
              go_wp2
              go_roundw
              case rel =>
                first
                  | exact ⟨q + 1, by omega, by rw [HT2.out], by go_num, HB⟩
                  | ((repeat apply Exists.intro); refine ⟨?_, rfl⟩; exact ⟨q + 1, by omega, by rw [HT2.out], by go_num, HB⟩)
              case measure => simp [intOf]; omega
        · as_aux_lemma =>
            have t1 : decide (k1 = k0) = false := by simp [e1]
            have HT2 : Hid ((ls.take (q + 1)).countP (fun y => decide (y.2.2.k = k0) && decide (y.2.2.o = o0)) = cn) := by rw [t1] at HT; exact HT
            clear HT
            go_upto_region 35 with fail
            go_quiet (fail)
            have HB := hide (hbB.out nq)
            clear hbB
            go_wp2
            go_roundw
            case rel =>
              first
                | exact ⟨q + 1, by omega, by rw [HT2.out], by go_num, HB⟩
                | ((repeat apply Exists.intro); refine ⟨?_, rfl⟩; exact ⟨q + 1, by omega, by rw [HT2.out], by go_num, HB⟩)
            case measure => simp [intOf]; omega
      · have hdq : decide ((q : Int) < (LA : Int)) = false := by simp; omega
        have hcq : (ls.take q).countP (fun y => decide (y.2.2.k = k0) && decide (y.2.2.o = o0)) = (pls (fun r => decide (r.k = k0) && decide (r.o = o0)) bk).length := by
          rw [HPls.out, List.take_of_length_le (by rw [HLs.out]; omega)]
        rw [hcq]
        have HOn := hide (fun W (h : Below wr.heap.size wr W) => on_any W F B bk ((HS.out.book.below K6.out).below h) k0 o0)
        generalize (pls (fun r => decide (r.k = k0) && decide (r.o = o0)) bk).length = pn at *
        have HPw : Hid (∀ W, Below wr.heap.size wr W → W.cell? ⟨g, p * 6 + 2, none⟩ = some (.int .i64 k0) ∧ W.cell? ⟨g, p * 6 + 3, none⟩ = some (.int .i64 o0)) := hide fun W hW => HPp.out W (K6.out.trans (hW.mono K6.out.size))
        clear hcq HPp HCq HPls
        go_upto_region 37 with fail
        have HT0 : Hid (Below wr.heap.size wr wr.drew) := hide ⟨rfl, rfl, rfl, Nat.le_refl _, fun _ _ => rfl⟩
        refine wp_region_held_drew (S := fun W => Below wr.heap.size wr W) (by kernel_rfl) HT0.out (fun _ => ?_)
        generalize wr.drew = wq0 at *
        refine hd_take 0 (o := ⟨some 248, _, _, _, _, _⟩) (.pointer (some ⟨B, 0, none⟩)) (by kernel_rfl) (by kernel_rfl) (by kernel_rfl) rfl (by rfl) (fun W hSw => by go_simp) (fun _ _ _ h => h) HT0.out ?_
        simp only [Act.put, List.setIfInBounds_toArray, List.set_cons_zero, List.set_cons_succ]
        refine hd_take 1 (o := ⟨some 249, _, _, _, _, _⟩) (.slice (some ⟨g, 0, none⟩) LA cA) (by kernel_rfl) (by kernel_rfl) (by kernel_rfl) rfl (by rfl) (fun W hSw => by go_simp) (fun _ _ _ h => h) HT0.out ?_
        simp only [Act.put, List.setIfInBounds_toArray, List.set_cons_zero, List.set_cons_succ]
        refine hd_take 2 (o := ⟨some 250, _, _, _, _, _⟩) (.int .i64 (p : Int)) (by kernel_rfl) (by kernel_rfl) (by kernel_rfl) rfl (by rfl) (fun W hSw => by go_simp) (fun _ _ _ h => h) HT0.out ?_
        simp only [Act.put, List.setIfInBounds_toArray, List.set_cons_zero, List.set_cons_succ]
        refine hd_take 3 (o := ⟨some 251, _, _, _, _, _⟩) (.pointer (some ⟨g, p * 6, none⟩)) (by kernel_rfl) (by kernel_rfl) (by kernel_rfl) rfl (by rfl) (fun W hSw => by go_simp) (fun _ _ _ h => h) HT0.out ?_
        simp only [Act.put, List.setIfInBounds_toArray, List.set_cons_zero, List.set_cons_succ]
        refine hd_take 4 (o := ⟨some 252, _, _, _, _, _⟩) (.pointer (some ⟨g, p * 6 + 2, none⟩)) (by kernel_rfl) (by kernel_rfl) (by kernel_rfl) rfl (by rfl) (fun W hSw => by go_simp) (fun _ _ _ h => h) HT0.out ?_
        simp only [Act.put, List.setIfInBounds_toArray, List.set_cons_zero, List.set_cons_succ]
        refine hd_take 5 (o := ⟨some 253, _, _, _, _, _⟩) (.pointer (some ⟨g, p * 6 + 2, none⟩)) (by kernel_rfl) (by kernel_rfl) (by kernel_rfl) rfl (by rfl) (fun W hSw => by go_simp) (fun _ _ _ h => h) HT0.out ?_
        simp only [Act.put, List.setIfInBounds_toArray, List.set_cons_zero, List.set_cons_succ]
        refine hd_take 6 (o := ⟨some 254, _, _, _, _, _⟩) (.int .i64 k0) (by kernel_rfl) (by kernel_rfl) (by kernel_rfl) rfl (by rfl) (fun W hSw => by obtain ⟨q1, q2⟩ := HPw.out W hSw; go_simp) (fun _ _ _ h => h) HT0.out ?_
        simp only [Act.put, List.setIfInBounds_toArray, List.set_cons_zero, List.set_cons_succ]
        refine hd_take 7 (o := ⟨some 255, _, _, _, _, _⟩) (.slice (some ⟨g, 0, none⟩) LA cA) (by kernel_rfl) (by kernel_rfl) (by kernel_rfl) rfl (by rfl) (fun W hSw => by go_simp) (fun _ _ _ h => h) HT0.out ?_
        simp only [Act.put, List.setIfInBounds_toArray, List.set_cons_zero, List.set_cons_succ]
        refine hd_take 8 (o := ⟨some 256, _, _, _, _, _⟩) (.int .i64 (p : Int)) (by kernel_rfl) (by kernel_rfl) (by kernel_rfl) rfl (by rfl) (fun W hSw => by go_simp) (fun _ _ _ h => h) HT0.out ?_
        simp only [Act.put, List.setIfInBounds_toArray, List.set_cons_zero, List.set_cons_succ]
        refine hd_take 9 (o := ⟨some 257, _, _, _, _, _⟩) (.pointer (some ⟨g, p * 6, none⟩)) (by kernel_rfl) (by kernel_rfl) (by kernel_rfl) rfl (by rfl) (fun W hSw => by go_simp) (fun _ _ _ h => h) HT0.out ?_
        simp only [Act.put, List.setIfInBounds_toArray, List.set_cons_zero, List.set_cons_succ]
        refine hd_take 10 (o := ⟨some 258, _, _, _, _, _⟩) (.pointer (some ⟨g, p * 6 + 2, none⟩)) (by kernel_rfl) (by kernel_rfl) (by kernel_rfl) rfl (by rfl) (fun W hSw => by go_simp) (fun _ _ _ h => h) HT0.out ?_
        simp only [Act.put, List.setIfInBounds_toArray, List.set_cons_zero, List.set_cons_succ]
        refine hd_take 11 (o := ⟨some 259, _, _, _, _, _⟩) (.pointer (some ⟨g, p * 6 + 3, none⟩)) (by kernel_rfl) (by kernel_rfl) (by kernel_rfl) rfl (by rfl) (fun W hSw => by go_simp) (fun _ _ _ h => h) HT0.out ?_
        simp only [Act.put, List.setIfInBounds_toArray, List.set_cons_zero, List.set_cons_succ]
        refine hd_take 12 (o := ⟨some 260, _, _, _, _, _⟩) (.int .i64 o0) (by kernel_rfl) (by kernel_rfl) (by kernel_rfl) rfl (by rfl) (fun W hSw => by obtain ⟨q1, q2⟩ := HPw.out W hSw; go_simp) (fun _ _ _ h => h) HT0.out ?_
        simp only [Act.put, List.setIfInBounds_toArray, List.set_cons_zero, List.set_cons_succ]
        refine hd_take 14 (o := ⟨some 262, _, _, _, _, _⟩) (.int .i64 (pn : Int)) (by kernel_rfl) (by kernel_rfl) (by kernel_rfl) rfl (by rfl) (fun W hSw => by go_simp) (fun _ _ _ h => h) HT0.out ?_
        simp only [Act.put, List.setIfInBounds_toArray, List.set_cons_zero, List.set_cons_succ]
        refine hd_call 13 (o := ⟨some 261, _, _, _, _, _⟩) (by kernel_rfl) rfl (by rfl) (fun K hK => ?_)
        go_simp
        go_wp2_with (go_at_call 13; refine (HOn.out _ HT0.out).mono ?_; rintro e1 wq1 ⟨rfl, hbq⟩)
        have HT1 := hide (HT0.out.trans (hbq.mono HT0.out.size))
        clear hbq
        refine hK _ _ HT1.out ?_
        clear hK K
        try simp only [Act.put, List.setIfInBounds_toArray, List.set_cons_zero, List.set_cons_succ]
        refine hd_take 15 (o := ⟨some 263, _, _, _, _, _⟩) (.bool false) (by kernel_rfl) (by kernel_rfl) (by kernel_rfl) rfl (by rfl) (fun W hSw => by go_simp) (fun _ _ _ h => h) HT1.out ?_
        simp only [Act.put, List.setIfInBounds_toArray, List.set_cons_zero, List.set_cons_succ]
        refine wpAnyH_done (by kernel_rfl) ?_ _
        have HB := hide (K6.out.trans (HT1.out.mono K6.out.size))
        go_wp2
        go_roundw
        case rel =>
          first
            | exact ⟨p + 1, by omega, by go_num, HB⟩
            | ((repeat apply Exists.intro); refine ⟨?_, rfl⟩; exact ⟨p + 1, by omega, by go_num, HB⟩)
        case measure => simp [intOf]; omega
    · have hdp : decide ((p : Int) < (LA : Int)) = false := by simp; omega
      have HBk := hide (HS.out.book.below K5.out)
      have HG := hide (get_any wr F B bk HBk.out 0 0)
      have HBl := hide (HS.out.bel.trans (K5.out.mono HS.out.bel.size))
      have HF0 : Hid (∀ r, atB bk 0 0 = some r → (Go.Proofs.Ytjpnjgbcmodnoaa.hl bk 16).find? (fnd 0 0) = some ((0 : Int), ((0 : Nat), r))) := hide fun r hr => by
        have hm : (((0 : Nat) : Int), ((0 : Nat), r)) ∈ Go.Proofs.Ytjpnjgbcmodnoaa.hl bk 16 := List.mem_flatMap.2 ⟨0, by simp, List.mem_map.2 ⟨(0, r), lf_at.2 hr, rfl⟩⟩
        cases hf : (Go.Proofs.Ytjpnjgbcmodnoaa.hl bk 16).find? (fnd 0 0) with
        | none =>
          have := List.find?_eq_none.1 hf _ hm
          simp [fnd] at this
        | some y =>
          have hy := List.find?_some hf
          obtain ⟨i', _, e1, e2⟩ := mem_hl (List.mem_of_find?_eq_some hf)
          simp only [fnd, Bool.and_eq_true, decide_eq_true_eq] at hy
          obtain ⟨y1, y2, y3⟩ := y
          simp only at hy e1 e2
          obtain ⟨rfl, hy2⟩ := hy
          obtain rfl : y2 = 0 := by omega
          obtain rfl : i' = 0 := by omega
          rw [show atB bk ((0 : Nat) : Int) ((0 : Nat) : Int) = atB bk 0 0 from rfl, hr] at e2
          cases e2
          rfl
      have HF1 : Hid (atB bk 0 0 = none → (Go.Proofs.Ytjpnjgbcmodnoaa.hl bk 16).find? (fnd 0 0) = none) := hide fun hr => by
        refine List.find?_eq_none.2 fun y hy hfn => ?_
        obtain ⟨i', _, e1, e2⟩ := mem_hl hy
        simp only [fnd, Bool.and_eq_true, decide_eq_true_eq] at hfn
        rw [← e1, hfn.1, hfn.2, hr] at e2
        cases e2
      have HHw := hide (fun W (h : Below wr.heap.size wr W) => hasH_any W _ (Go.Proofs.Ytjpnjgbcmodnoaa.hl bk 16) (HHl.out.below (K5.out.trans (h.mono K5.out.size))) (by rw [HLA.out]; exact hlenA) 0 0)
      cases hat : atB bk 0 0 with
      | none =>
        as_aux_lemma =>
          obtain ⟨lc, hlc, hln⟩ : ∃ c, lcode bk 0 0 = c ∧ c ≠ 0 := ⟨_, rfl, by unfold lcode; rw [hat]; simp; split <;> omega⟩
          rw [hat, hlc] at HG
          simp only [Option.getD_none, Rc.cap, Rc.zero] at HG
          have HFn := hide (HF1.out hat)
          clear hlc hat HF0 HF1
          go_wp2_with fail
          refine HG.out.mono ?_
          rintro e w2 ⟨rfl, hb2⟩
          have hb3 := hb2.alloc hb2.size (.cells #[.int .i64 0, .int .i64 0, .int .i64 0, .int .i64 0] 26)
          have hC := heap_alloc_new w2 (.cells #[.int .i64 0, .int .i64 0, .int .i64 0, .int .i64 0] 26)
          go_upto_region 40 with fail
          generalize w2.alloc (.cells #[.int .i64 0, .int .i64 0, .int .i64 0, .int .i64 0] 26) = w3 at *
          generalize w2.heap.size = C at *
          go_wp2_with fail
          refine (HHw.out w3 hb3).mono ?_
          rintro e w4 ⟨hor, hb4⟩
          obtain rfl : e = .returned (.tuple #[.agg #[.int .i64 0, .int .i64 0, .int .i64 0, .int .i64 0, .int .i64 0, .int .i64 0], .bool false]) := by
            rcases hor with ⟨yy, h1, rfl⟩ | ⟨h1, rfl⟩
            · rw [HFn.out] at h1; cases h1
            · rfl
          have hb5 := hb4.alloc hb4.size (.cells #[.int .i64 0, .int .i64 0, .int .i64 0, .int .i64 0, .int .i64 0, .int .i64 0] 38)
          have hC5 := (hb5.block C (Array.getElem?_eq_some_iff.1 hC).1).trans hC
          have HB9 := hide (HBl.out.trans ((hb3.trans (hb5.mono hb3.size)).mono HBl.out.size))
          clear hor hb2 hb3 hb4 hb5 hC HHw HG HBk
          go_upto_region 41 with fail
          generalize w4.alloc (.cells #[.int .i64 0, .int .i64 0, .int .i64 0, .int .i64 0, .int .i64 0, .int .i64 0] 38) = w5 at *
          obtain ⟨c0, c1, c2, c3⟩ := blk4 hC5
          have hl1 : (lc == 0) = false := by simp [hln]
          have hl2 : decide (lc = 0) = false := by simp [hln]
          have hl3 : (lc != 0) = true := by simp [hln]
          clear hC5
          go_wp2
          go_ret
          exact ⟨rfl, HB9.out⟩
      | some r =>
        as_aux_lemma =>
          rw [hat, lcode_some hat] at HG
          simp only [Option.getD_some, Rc.cap] at HG
          have HFn := hide (HF0.out r hat)
          have hk1 := (HKd.out 0 0 r hat).1.1
          clear hat HF0 HF1
          obtain ⟨rk, ro, rs, rr, re, rt⟩ := r
          simp only at HG HFn hk1
          have hkz : decide (rk = 0) = false := by simp; omega
          go_wp2_with fail
          refine HG.out.mono ?_
          rintro e w2 ⟨rfl, hb2⟩
          have hb3 := hb2.alloc hb2.size (.cells #[.int .i64 rk, .int .i64 ro, .int .i64 rs, .int .i64 rr] 26)
          have hC := heap_alloc_new w2 (.cells #[.int .i64 rk, .int .i64 ro, .int .i64 rs, .int .i64 rr] 26)
          go_upto_region 40 with fail
          generalize w2.alloc (.cells #[.int .i64 rk, .int .i64 ro, .int .i64 rs, .int .i64 rr] 26) = w3 at *
          generalize w2.heap.size = C at *
          go_wp2_with fail
          refine (HHw.out w3 hb3).mono ?_
          rintro e w4 ⟨hor, hb4⟩
          obtain rfl : e = .returned (.tuple #[.agg #[.int .i64 0, .int .i64 ((0 : Nat) : Int), .int .i64 rk, .int .i64 ro, .int .i64 rs, .int .i64 rr], .bool true]) := by
            rcases hor with ⟨yy, h1, rfl⟩ | ⟨h1, rfl⟩
            · rw [HFn.out] at h1; cases h1; rfl
            · rw [HFn.out] at h1; cases h1
          have hb5 := hb4.alloc hb4.size (.cells #[.int .i64 0, .int .i64 ((0 : Nat) : Int), .int .i64 rk, .int .i64 ro, .int .i64 rs, .int .i64 rr] 38)
          have hC5 := (hb5.block C (Array.getElem?_eq_some_iff.1 hC).1).trans hC
          have HB9 := hide (HBl.out.trans ((hb3.trans (hb5.mono hb3.size)).mono HBl.out.size))
          clear hor hb2 hb3 hb4 hb5 hC HHw HG HBk
          go_upto_region 41 with fail
          generalize w4.alloc (.cells #[.int .i64 0, .int .i64 ((0 : Nat) : Int), .int .i64 rk, .int .i64 ro, .int .i64 rs, .int .i64 rr] 38) = w5 at *
          obtain ⟨c0, c1, c2, c3⟩ := blk4 hC5
          clear hC5
          go_wp2
          go_ret
          exact ⟨rfl, HB9.out⟩
end Go.Proofs.Ytjpnjgbcmodnoaa
