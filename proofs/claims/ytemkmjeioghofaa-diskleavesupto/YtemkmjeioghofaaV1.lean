import Derived.Test.YtemkmjeioghofaaV0
import Derived.Test.YtemkmjeioghofaaV2
namespace Go.Proofs.Ytemkmjeioghofaa
open Go.RowKit

theorem star_rot4 {A B C D : Asn} {W : World} {H : Nat → Prop} (h : star A (star B (star C D)) W H) : star D (star A (star B C)) W H :=
  star_swap (star_mono (fun _ _ h => star_swap (star_mono (fun _ _ h => star_comm h) h)) h)
theorem Sys.four {w wr : World} {X Y Z V : Asn} (h : Sys w wr (star X (star Y (star Z V)))) : ∃ H1 H2 H3 H4 : Nat → Prop, X wr H1 ∧ Y wr H2 ∧ Z wr H3 ∧ V wr H4 := by
  obtain ⟨H, ⟨H1, H23, hX, ⟨H2, H34, hY, ⟨H3, H4, hZ, hV, _, _⟩, _, _⟩, _, _⟩, _, _⟩ := h
  exact ⟨H1, H2, H3, H4, hX, hY, hZ, hV⟩
theorem puts_ne {Z : Nat → Int × Nat} {len s : Nat} (h : ∀ j, j < len → ¬ pl (Z j).1 = s) : ∀ x ∈ puts Z len, x.1 ≠ s := by
  intro x hx
  simp [puts] at hx
  obtain ⟨j, hj, rfl⟩ := hx
  exact h j hj
set_option maxRecDepth 100000 in
set_option maxHeartbeats 8000000 in
theorem leaves_walk (a : Option Addr) (ln cp : Nat) (O : Nat → Opr) (a1 : Option Addr) (len cap : Nat) (Z : Nat → Int × Nat) (kv : Value) (ks : List Bool) (w : World)
    (hln : ln ≤ 1048576) (hO : IsOps w a ln O) (hlen : len ≤ 1048576) (hZ : IsPuts w a1 len Z) (hkl : ks.length ≤ 1048576) (hK : RdB w kv ks) :
    Calls Try.prog 8 #[.slice a ln cp, .slice a1 len cap, kv] w fun e w' => e = .returned (.bool true) ∧ Below w.heap.size w w' := by
  have HZ := hide hZ
  have HK := hide hK
  obtain ⟨a2, cb, hkv⟩ := hK.len
  obtain ⟨nb, hnb⟩ : ∃ nb, ks.length = nb := ⟨_, rfl⟩
  rw [hnb] at hkv hkl
  subst hkv
  have HNB := hide hnb
  clear hZ hK hnb
  go_enter Try.func8, Try.ntmps8
  go_wp2_with fail
  refine (fresh_any a ln cp O w hln hO).mono ?_
  rintro e w1 ⟨B, M, A, rfl, h1, hA⟩
  have h1' : Sys w w1 (DkA B (wait M [] A)) := h1
  obtain ⟨F0, hd0, _, _⟩ := h1'.call1
  have H1 := hide h1'
  have HD1 := hide hd0
  clear h1 h1' hd0 hO
  go_wp2_with fail
  refine (raws_any HD1.out H1.out.bel a1 len cap Z hlen HZ.out).mono ?_
  rw [show (wait M [] A).M = M from rfl]
  rintro e w2 ⟨v1, R1, rfl, hR1, hl1, hb2⟩
  have H2 := hide (H1.out.new (good_dk _ _) hR1 hl1 hb2)
  have HD2 := hide ((good_dk _ _).below HD1.out hb2)
  obtain ⟨av1, cv1, hv1, _⟩ := rows_read hR1
  rw [rawsOf_len] at hv1
  subst hv1
  clear hR1 hl1 hb2 H1 HD1
  go_wp2_with fail
  refine (next_any a1 len cap Z hlen HZ.out H2.out.bel).mono ?_
  rintro e w3 ⟨vn, RN, rfl, hN3, hl3, hb3⟩
  have H3 := hide (H2.out.new ((good_rows _ _).star (good_dk _ _)) hN3 hl3 hb3)
  have HD3 := hide ((good_dk _ _).below HD2.out hb3)
  obtain ⟨an, cn, hvn, hpn⟩ := hN3.puts (nx_in Z len)
  rw [nx_len] at hvn hpn
  subst hvn
  have HPN := hide hpn
  clear hN3 hl3 hb3 hpn H2 HD2
  go_wp2_with fail
  refine (raws_any HD3.out (Below.refl _ _) an len cn _ hlen HPN.out).mono ?_
  rw [show (wait M [] A).M = M from rfl]
  rintro e w4 ⟨v2, R2, rfl, hR2, hl2, hb4⟩
  have H4 := hide ((H3.out.new ((good_near _ _).star ((good_rows _ _).star (good_dk _ _))) hR2 hl2 hb4).mono (fun _ _ h => star_rot4 h))
  obtain ⟨av2, cv2, hv2, _⟩ := rows_read hR2
  rw [rawsOf_len] at hv2
  subst hv2
  obtain ⟨Zn, hZn⟩ : ∃ Zn : Nat → Int × Nat, (fun k => ((nx Z len).getD k 0, 0)) = Zn := ⟨_, rfl⟩
  rw [hZn] at H4
  clear hR2 hl2 hb4 H3 HD3 HPN
  go_wp2_with fail
  obtain ⟨F4, hd4, hF4, hn4⟩ := H4.out.call ((good_rows _ _).star ((good_near _ _).star (good_rows _ _)))
  refine (laid_any hd4 H4.out.bel hF4 a1 len cap Z hlen HZ.out (by omega) (by simp)).mono ?_
  rintro e w5 ⟨rfl, F5, hd5, hx5⟩
  have hd5' : DkA B (wait M (puts Z len) (A + len)) w5 F5 := hd5
  have H5 := hide (hn4 _ _ _ hd5' hx5)
  clear hd4 hF4 hn4 hd5 hd5' hx5 H4
  go_wp2_with fail
  refine (flags_any _ ks _ (HK.out.below H5.out.bel (Nat.le_refl _)) (by rw [HNB.out]; exact hkl)).mono ?_
  rintro e w6 ⟨r6, rfl, hr6, hb6⟩
  obtain ⟨F6, hd6, _, hn6⟩ := H5.out.call ((good_rows _ _).star ((good_near _ _).star (good_rows _ _)))
  have Q6 := hide (And.intro hr6.rd (And.intro ((good_dk _ _).below hd6 hb6) (And.intro (own_farS hr6 hd6) (And.intro hn6 hb6))))
  clear hr6 hd6 hn6 hb6
  go_wp2_with fail
  refine (crash_any Q6.out.2.1 r6 ks Q6.out.1 Q6.out.2.2.1).mono ?_
  rw [crash_wait, show (wait M (puts Z len) (A + len)).c = puts Z len from rfl, puts_len]
  rintro e w7 ⟨rfl, F7, hd7, hx7⟩
  have H7 := hide (Q6.out.2.2.2.1 _ _ _ hd7 ((Ext.of_below Q6.out.2.2.2.2).trans hx7))
  have HD7 := hide hd7
  clear hd7 hx7 Q6 H5
  obtain ⟨C, hC⟩ : ∃ C, (keptTo (kp ks) (puts Z len) len).length = C := ⟨_, rfl⟩
  have HC := hide hC
  have hCl : C ≤ len := by rw [← hC]; exact keptTo_len _ _ _
  rw [hC]
  have HM2 := hide (fun s => kept_last (M := M) (Z := Z) (len := len) (p := kp ks) (s := s) len (Nat.le_refl _))
  have HMN : Hid (∀ s, (∀ j, j < len → ¬ pl (Z j).1 = s) → play M (keptTo (kp ks) (puts Z len) len) s = M s) := fun s h => play_kept (puts_ne h)
  generalize play M (keptTo (kp ks) (puts Z len) len) = M2 at *
  clear hC
  go_wp2_with fail
  refine (pending_any HD7.out (by show 0 ≤ _; omega)).mono ?_
  rintro e w8 ⟨r8, rfl, hp8, hb8⟩
  obtain ⟨a8, c8, h8⟩ := OwI.nil hp8
  subst h8
  have H8 := hide (H7.out.below ((good_dk _ _).star ((good_rows _ _).star ((good_near _ _).star (good_rows _ _)))) hb8)
  clear hp8 hb8 H7 HD7
  obtain ⟨_, _, _, _, hd8, hR2, hN8, hR1⟩ := H8.out.four
  obtain ⟨q1, q2, hv2, hvc2⟩ := rows_read hR2
  obtain ⟨q3, q4, hv1, hvc1⟩ := rows_read hR1
  obtain ⟨q5, q6, hvn, hpn⟩ := hN8.puts (nx_in Z len)
  rw [rawsOf_len] at hv1 hv2
  rw [nx_len] at hvn hpn
  simp at hv1 hv2 hvn
  obtain ⟨rfl, rfl⟩ := hv1
  obtain ⟨rfl, rfl⟩ := hv2
  obtain ⟨rfl, rfl⟩ := hvn
  rw [hZn] at hpn
  have HD8 := hide hd8
  have HV1 := hide hvc1
  have HV2 := hide hvc2
  have HPN := hide hpn
  have HW8 := hide H8.out.bel
  clear hR2 hN8 hR1 hvc1 hvc2 hpn hd8 H8 hZn
  go_wp2_with fail
  refine (down_any HD8.out).mono ?_
  rw [show (wait M2 [] (A + len)).down = false from rfl]
  rintro e w9 ⟨rfl, rfl⟩
  go_wp2
  go_loopw [11, 12] (fun n i wr => ∃ k : Nat, k ≤ len ∧ i = .int .i64 (k : Int) ∧ n = .int .i64 ((C : Int) - ((keptTo (kp ks) (puts Z len) k).length : Nat)) ∧ Below w9.heap.size w9 wr) (fun _ i _ => len - (intOf i).toNat)
  case atStart => exact ⟨0, Nat.zero_le _, rfl, by simp [keptTo], Below.refl _ _⟩
  case round =>
    obtain ⟨k, hk, rfl, rfl, hbel⟩ := hrel
    by_cases hlt : k < len
    · have hd1 : decide (k < len) = true := by simp; omega
      have hbw : Below w.heap.size w wr := HW8.out.trans (hbel.mono HW8.out.size)
      obtain ⟨x, hx, _, hp⟩ := HZ.out.at hlt
      subst hx
      obtain ⟨c0, _⟩ := hp _ hbw
      obtain ⟨gv, rk, hgv, cv0, hrk⟩ := HV1.out k _ (rawsOf_get M Z hlt)
      subst hgv
      have d0 := cell_up hbel cv0
      have hmm := HM2.out (pl (Z k).1)
      have hlk := lastKept_any (w := w) (some x) len cap Z (.slice a2 nb cb) ks k hlen HZ.out HK.out hbw hlt (by rw [HNB.out]; exact hkl)
      obtain ⟨hy, hnn⟩ := kept_count (Z := Z) (p := kp ks) hlt
      have hle := kept_mono (p := kp ks) (c := puts Z len) (k := k) (n := len) hk
      rw [HC.out] at hle
      have hck : ∀ (hkb : k < nb), ∃ xk, a2 = some xk ∧ wr.cell? (xk.add k) = some (.bool (kp ks k)) := by
        intro hkb
        rcases HK.out.below hbw (Nat.le_refl _) with ⟨_, h2⟩ | ⟨xk, cc, h1, h2⟩
        · have := HNB.out; rw [h2] at this; simp at this; omega
        · simp at h1
          exact ⟨xk, h1.1, h2 k _ (by rw [List.getElem?_map]; unfold kp; rw [List.getD, List.getElem?_eq_getElem (by rw [HNB.out]; exact hkb)]; rfl)⟩
      have hcf : ¬ k < nb → kp ks k = false := fun h => by unfold kp; rw [List.getD, List.getElem?_eq_none (by rw [HNB.out]; omega)]; rfl
      have HP := hide hp
      have HLK := hide hlk
      have HRK := hide (hrk.below hbel (Nat.le_refl _))
      have HMM := hide hmm
      have HBE := hide hbel
      have HCF := hide hcf
      have HY := hide hy
      have HNN := hide hnn
      have hCk : (keptTo (kp ks) (puts Z len) k).length ≤ k := keptTo_len _ _ _
      have hle1 := kept_mono (p := kp ks) (c := puts Z len) (k := k + 1) (n := len) (by omega)
      rw [HC.out] at hle1
      obtain ⟨ck, hck0⟩ : ∃ ck, (keptTo (kp ks) (puts Z len) k).length = ck := ⟨_, rfl⟩
      rw [hck0] at hle hCk HY HNN ⊢
      obtain ⟨zk, hzk⟩ : ∃ zk, (Z k).1 = zk := ⟨_, rfl⟩
      rw [hzk] at c0 HP HLK HRK HMM
      clear hp hlk hmm hbel hcf hrk hy hnn cv0
      by_cases hkb : k < nb
      · have hd2 : decide (k < nb) = true := by simp; omega
        obtain ⟨xk, hxk, cx0⟩ := hck hkb
        subst hxk
        clear hck
        cases hb : kp ks k
        · rw [hb] at cx0
          have HNX : Hid ((C : Int) - (ck : Int) = (C : Int) - ((keptTo (kp ks) (puts Z len) (k + 1)).length : Nat)) := by have := HNN.out hb; rw [this]; rfl
          clear hle1
          go_wp2_with fail
          refine HLK.out.mono ?_
          rintro e w10 ⟨r, rfl, hb10, hL⟩
          have HB10 := hide hb10
          rcases hL with ⟨rfl, hno⟩ | ⟨m, rfl, hm, hpm, hsm, hmx⟩
          · have HM3 := hide (HMM.out.1 hno)
            have HWT := hide (HRK.out.below hb10 (Nat.le_refl _))
            have e0 := (HP.out _ (hbw.trans (hb10.mono hbw.size))).1
            clear hb10 hno d0
            go_wp2_with fail
            refine (place_any zk _).mono ?_
            rintro e w12 ⟨rfl, rfl⟩
            go_wp2_with fail
            refine (raw_ok ((good_dk _ _).below ((good_dk _ _).below HD8.out HBE.out) HB10.out) (pl zk) (pl_lt _)).mono ?_
            rw [show (wait M2 [] (A + len)).M (pl zk) = M2 (pl zk) from rfl]
            rintro e w13 ⟨rb, rfl, hrb, hb13⟩
            have hl13 : (M2 (pl zk)).length = 128 := by
              obtain ⟨_, _, h, _⟩ := HD8.out
              exact (h.ok.m _ (pl_lt zk)).1
            obtain ⟨ab, cbb, hvb⟩ := hrb.len
            rw [hl13] at hvb
            subst hvb
            have HRB := hide hrb
            have HB13 := hide (HB10.out.trans (hb13.mono HB10.out.size))
            have HWT1 := hide (HWT.out.below hb13 (Nat.le_refl _))
            have e2 := cell_up hb13 e0
            clear hrb hb13 hl13 e0
            go_wp2_with fail
            refine (place_any zk _).mono ?_
            rintro e w14 ⟨rfl, rfl⟩
            go_wp2_with fail
            refine (read_ok ((good_dk _ _).below ((good_dk _ _).below HD8.out HBE.out) HB13.out) (pl zk) (pl_lt _) rfl).mono ?_
            rw [show (wait M2 [] (A + len)).seen (pl zk) = M2 (pl zk) from rfl]
            rintro e w15 ⟨rc, rfl, hrc, hb15⟩
            have HRC := hide hrc
            have HRB1 := hide (HRB.out.below hb15 (Nat.le_refl _))
            have HWT2 := hide (HWT1.out.below hb15 (Nat.le_refl _))
            have HB15 := hide (HB13.out.trans (hb15.mono HB13.out.size))
            clear hrc hb15 e2
            go_wp2_with fail
            refine (same_eq _ _ _ _ (by have := HRB1.out.rd; rw [HM3.out] at this; exact this) HWT2.out).mono ?_
            rintro e w16 ⟨rfl, rfl⟩
            go_wp2_with fail
            refine (same_eq _ _ _ _ (by have := HRC.out.rd; rw [HM3.out] at this; exact this) HWT2.out).mono ?_
            rintro e w17 ⟨rfl, rfl⟩
            go_wp2
            go_roundw
            case rel => exact ⟨k + 1, by omega, by go_num, by rw [HNX.out], HBE.out.trans (HB15.out.mono HBE.out.size)⟩
            case measure => simp [intOf]; omega
          · have HM3 := hide (HMM.out.2 m hm hpm hsm hmx)
            obtain ⟨x', hx', hb8', hpm'⟩ := HZ.out.at hm
            cases hx'
            obtain ⟨_, e1⟩ := hpm' _ (hbw.trans (hb10.mono hbw.size))
            have e0 := (HP.out _ (hbw.trans (hb10.mono hbw.size))).1
            generalize hym : (Z m).2 = ym at *
            clear hb10 hpm' hpm hsm hmx d0
            have hdm : decide ((0 : Int) ≤ (m : Int)) = true := by simp
            go_wp2_with fail
            refine (full_any ym _).mono ?_
            rintro e w11 ⟨rf, rfl, hrf, hb11⟩
            have HWT := hide hrf.rd
            have HB10 := hide (HB10.out.trans (hb11.mono HB10.out.size))
            have e0 := cell_up hb11 e0
            clear hrf hb11 e1
            go_wp2_with fail
            refine (place_any zk _).mono ?_
            rintro e w12 ⟨rfl, rfl⟩
            go_wp2_with fail
            refine (raw_ok ((good_dk _ _).below ((good_dk _ _).below HD8.out HBE.out) HB10.out) (pl zk) (pl_lt _)).mono ?_
            rw [show (wait M2 [] (A + len)).M (pl zk) = M2 (pl zk) from rfl]
            rintro e w13 ⟨rb, rfl, hrb, hb13⟩
            have hl13 : (M2 (pl zk)).length = 128 := by
              obtain ⟨_, _, h, _⟩ := HD8.out
              exact (h.ok.m _ (pl_lt zk)).1
            obtain ⟨ab, cbb, hvb⟩ := hrb.len
            rw [hl13] at hvb
            subst hvb
            have HRB := hide hrb
            have HB13 := hide (HB10.out.trans (hb13.mono HB10.out.size))
            have HWT1 := hide (HWT.out.below hb13 (Nat.le_refl _))
            have e2 := cell_up hb13 e0
            clear hrb hb13 hl13 e0
            go_wp2_with fail
            refine (place_any zk _).mono ?_
            rintro e w14 ⟨rfl, rfl⟩
            go_wp2_with fail
            refine (read_ok ((good_dk _ _).below ((good_dk _ _).below HD8.out HBE.out) HB13.out) (pl zk) (pl_lt _) rfl).mono ?_
            rw [show (wait M2 [] (A + len)).seen (pl zk) = M2 (pl zk) from rfl]
            rintro e w15 ⟨rc, rfl, hrc, hb15⟩
            have HRC := hide hrc
            have HRB1 := hide (HRB.out.below hb15 (Nat.le_refl _))
            have HWT2 := hide (HWT1.out.below hb15 (Nat.le_refl _))
            have HB15 := hide (HB13.out.trans (hb15.mono HB13.out.size))
            clear hrc hb15 e2
            go_wp2_with fail
            refine (same_eq _ _ _ _ (by have := HRB1.out.rd; rw [HM3.out] at this; exact this) HWT2.out).mono ?_
            rintro e w16 ⟨rfl, rfl⟩
            go_wp2_with fail
            refine (same_eq _ _ _ _ (by have := HRC.out.rd; rw [HM3.out] at this; exact this) HWT2.out).mono ?_
            rintro e w17 ⟨rfl, rfl⟩
            go_wp2
            go_roundw
            case rel => exact ⟨k + 1, by omega, by go_num, by rw [HNX.out], HBE.out.trans (HB15.out.mono HBE.out.size)⟩
            case measure => simp [intOf]; omega
        · rw [hb] at cx0
          have HNX : Hid ((C : Int) - (ck : Int) - 1 = (C : Int) - ((keptTo (kp ks) (puts Z len) (k + 1)).length : Nat)) := by have := HY.out hb; rw [this]; show _ = _; omega
          have hck1 : ck + 1 ≤ C := by have := HY.out hb; omega
          clear hle1
          go_wp2_with fail
          refine HLK.out.mono ?_
          rintro e w10 ⟨r, rfl, hb10, hL⟩
          have HB10 := hide hb10
          rcases hL with ⟨rfl, hno⟩ | ⟨m, rfl, hm, hpm, hsm, hmx⟩
          · have HM3 := hide (HMM.out.1 hno)
            have HWT := hide (HRK.out.below hb10 (Nat.le_refl _))
            have e0 := (HP.out _ (hbw.trans (hb10.mono hbw.size))).1
            clear hb10 hno d0
            go_wp2_with fail
            refine (place_any zk _).mono ?_
            rintro e w12 ⟨rfl, rfl⟩
            go_wp2_with fail
            refine (raw_ok ((good_dk _ _).below ((good_dk _ _).below HD8.out HBE.out) HB10.out) (pl zk) (pl_lt _)).mono ?_
            rw [show (wait M2 [] (A + len)).M (pl zk) = M2 (pl zk) from rfl]
            rintro e w13 ⟨rb, rfl, hrb, hb13⟩
            have hl13 : (M2 (pl zk)).length = 128 := by
              obtain ⟨_, _, h, _⟩ := HD8.out
              exact (h.ok.m _ (pl_lt zk)).1
            obtain ⟨ab, cbb, hvb⟩ := hrb.len
            rw [hl13] at hvb
            subst hvb
            have HRB := hide hrb
            have HB13 := hide (HB10.out.trans (hb13.mono HB10.out.size))
            have HWT1 := hide (HWT.out.below hb13 (Nat.le_refl _))
            have e2 := cell_up hb13 e0
            clear hrb hb13 hl13 e0
            go_wp2_with fail
            refine (place_any zk _).mono ?_
            rintro e w14 ⟨rfl, rfl⟩
            go_wp2_with fail
            refine (read_ok ((good_dk _ _).below ((good_dk _ _).below HD8.out HBE.out) HB13.out) (pl zk) (pl_lt _) rfl).mono ?_
            rw [show (wait M2 [] (A + len)).seen (pl zk) = M2 (pl zk) from rfl]
            rintro e w15 ⟨rc, rfl, hrc, hb15⟩
            have HRC := hide hrc
            have HRB1 := hide (HRB.out.below hb15 (Nat.le_refl _))
            have HWT2 := hide (HWT1.out.below hb15 (Nat.le_refl _))
            have HB15 := hide (HB13.out.trans (hb15.mono HB13.out.size))
            clear hrc hb15 e2
            go_wp2_with fail
            refine (same_eq _ _ _ _ (by have := HRB1.out.rd; rw [HM3.out] at this; exact this) HWT2.out).mono ?_
            rintro e w16 ⟨rfl, rfl⟩
            go_wp2_with fail
            refine (same_eq _ _ _ _ (by have := HRC.out.rd; rw [HM3.out] at this; exact this) HWT2.out).mono ?_
            rintro e w17 ⟨rfl, rfl⟩
            go_wp2
            go_roundw
            case rel => exact ⟨k + 1, by omega, by go_num, by rw [HNX.out], HBE.out.trans (HB15.out.mono HBE.out.size)⟩
            case measure => simp [intOf]; omega
          · have HM3 := hide (HMM.out.2 m hm hpm hsm hmx)
            obtain ⟨x', hx', hb8', hpm'⟩ := HZ.out.at hm
            cases hx'
            obtain ⟨_, e1⟩ := hpm' _ (hbw.trans (hb10.mono hbw.size))
            have e0 := (HP.out _ (hbw.trans (hb10.mono hbw.size))).1
            generalize hym : (Z m).2 = ym at *
            clear hb10 hpm' hpm hsm hmx d0
            have hdm : decide ((0 : Int) ≤ (m : Int)) = true := by simp
            go_wp2_with fail
            refine (full_any ym _).mono ?_
            rintro e w11 ⟨rf, rfl, hrf, hb11⟩
            have HWT := hide hrf.rd
            have HB10 := hide (HB10.out.trans (hb11.mono HB10.out.size))
            have e0 := cell_up hb11 e0
            clear hrf hb11 e1
            go_wp2_with fail
            refine (place_any zk _).mono ?_
            rintro e w12 ⟨rfl, rfl⟩
            go_wp2_with fail
            refine (raw_ok ((good_dk _ _).below ((good_dk _ _).below HD8.out HBE.out) HB10.out) (pl zk) (pl_lt _)).mono ?_
            rw [show (wait M2 [] (A + len)).M (pl zk) = M2 (pl zk) from rfl]
            rintro e w13 ⟨rb, rfl, hrb, hb13⟩
            have hl13 : (M2 (pl zk)).length = 128 := by
              obtain ⟨_, _, h, _⟩ := HD8.out
              exact (h.ok.m _ (pl_lt zk)).1
            obtain ⟨ab, cbb, hvb⟩ := hrb.len
            rw [hl13] at hvb
            subst hvb
            have HRB := hide hrb
            have HB13 := hide (HB10.out.trans (hb13.mono HB10.out.size))
            have HWT1 := hide (HWT.out.below hb13 (Nat.le_refl _))
            have e2 := cell_up hb13 e0
            clear hrb hb13 hl13 e0
            go_wp2_with fail
            refine (place_any zk _).mono ?_
            rintro e w14 ⟨rfl, rfl⟩
            go_wp2_with fail
            refine (read_ok ((good_dk _ _).below ((good_dk _ _).below HD8.out HBE.out) HB13.out) (pl zk) (pl_lt _) rfl).mono ?_
            rw [show (wait M2 [] (A + len)).seen (pl zk) = M2 (pl zk) from rfl]
            rintro e w15 ⟨rc, rfl, hrc, hb15⟩
            have HRC := hide hrc
            have HRB1 := hide (HRB.out.below hb15 (Nat.le_refl _))
            have HWT2 := hide (HWT1.out.below hb15 (Nat.le_refl _))
            have HB15 := hide (HB13.out.trans (hb15.mono HB13.out.size))
            clear hrc hb15 e2
            go_wp2_with fail
            refine (same_eq _ _ _ _ (by have := HRB1.out.rd; rw [HM3.out] at this; exact this) HWT2.out).mono ?_
            rintro e w16 ⟨rfl, rfl⟩
            go_wp2_with fail
            refine (same_eq _ _ _ _ (by have := HRC.out.rd; rw [HM3.out] at this; exact this) HWT2.out).mono ?_
            rintro e w17 ⟨rfl, rfl⟩
            go_wp2
            go_roundw
            case rel => exact ⟨k + 1, by omega, by go_num, by rw [HNX.out], HBE.out.trans (HB15.out.mono HBE.out.size)⟩
            case measure => simp [intOf]; omega
      · have hd2 : decide (k < nb) = false := by simp; omega
        have hb := HCF.out hkb
        clear hck
        have HNX : Hid ((C : Int) - (ck : Int) = (C : Int) - ((keptTo (kp ks) (puts Z len) (k + 1)).length : Nat)) := by have := HNN.out hb; rw [this]; rfl
        clear hle1
        go_wp2_with fail
        refine HLK.out.mono ?_
        rintro e w10 ⟨r, rfl, hb10, hL⟩
        have HB10 := hide hb10
        rcases hL with ⟨rfl, hno⟩ | ⟨m, rfl, hm, hpm, hsm, hmx⟩
        · have HM3 := hide (HMM.out.1 hno)
          have HWT := hide (HRK.out.below hb10 (Nat.le_refl _))
          have e0 := (HP.out _ (hbw.trans (hb10.mono hbw.size))).1
          clear hb10 hno d0
          go_wp2_with fail
          refine (place_any zk _).mono ?_
          rintro e w12 ⟨rfl, rfl⟩
          go_wp2_with fail
          refine (raw_ok ((good_dk _ _).below ((good_dk _ _).below HD8.out HBE.out) HB10.out) (pl zk) (pl_lt _)).mono ?_
          rw [show (wait M2 [] (A + len)).M (pl zk) = M2 (pl zk) from rfl]
          rintro e w13 ⟨rb, rfl, hrb, hb13⟩
          have hl13 : (M2 (pl zk)).length = 128 := by
            obtain ⟨_, _, h, _⟩ := HD8.out
            exact (h.ok.m _ (pl_lt zk)).1
          obtain ⟨ab, cbb, hvb⟩ := hrb.len
          rw [hl13] at hvb
          subst hvb
          have HRB := hide hrb
          have HB13 := hide (HB10.out.trans (hb13.mono HB10.out.size))
          have HWT1 := hide (HWT.out.below hb13 (Nat.le_refl _))
          have e2 := cell_up hb13 e0
          clear hrb hb13 hl13 e0
          go_wp2_with fail
          refine (place_any zk _).mono ?_
          rintro e w14 ⟨rfl, rfl⟩
          go_wp2_with fail
          refine (read_ok ((good_dk _ _).below ((good_dk _ _).below HD8.out HBE.out) HB13.out) (pl zk) (pl_lt _) rfl).mono ?_
          rw [show (wait M2 [] (A + len)).seen (pl zk) = M2 (pl zk) from rfl]
          rintro e w15 ⟨rc, rfl, hrc, hb15⟩
          have HRC := hide hrc
          have HRB1 := hide (HRB.out.below hb15 (Nat.le_refl _))
          have HWT2 := hide (HWT1.out.below hb15 (Nat.le_refl _))
          have HB15 := hide (HB13.out.trans (hb15.mono HB13.out.size))
          clear hrc hb15 e2
          go_wp2_with fail
          refine (same_eq _ _ _ _ (by have := HRB1.out.rd; rw [HM3.out] at this; exact this) HWT2.out).mono ?_
          rintro e w16 ⟨rfl, rfl⟩
          go_wp2_with fail
          refine (same_eq _ _ _ _ (by have := HRC.out.rd; rw [HM3.out] at this; exact this) HWT2.out).mono ?_
          rintro e w17 ⟨rfl, rfl⟩
          go_wp2
          go_roundw
          case rel => exact ⟨k + 1, by omega, by go_num, by rw [HNX.out], HBE.out.trans (HB15.out.mono HBE.out.size)⟩
          case measure => simp [intOf]; omega
        · have HM3 := hide (HMM.out.2 m hm hpm hsm hmx)
          obtain ⟨x', hx', hb8', hpm'⟩ := HZ.out.at hm
          cases hx'
          obtain ⟨_, e1⟩ := hpm' _ (hbw.trans (hb10.mono hbw.size))
          have e0 := (HP.out _ (hbw.trans (hb10.mono hbw.size))).1
          generalize hym : (Z m).2 = ym at *
          clear hb10 hpm' hpm hsm hmx d0
          have hdm : decide ((0 : Int) ≤ (m : Int)) = true := by simp
          go_wp2_with fail
          refine (full_any ym _).mono ?_
          rintro e w11 ⟨rf, rfl, hrf, hb11⟩
          have HWT := hide hrf.rd
          have HB10 := hide (HB10.out.trans (hb11.mono HB10.out.size))
          have e0 := cell_up hb11 e0
          clear hrf hb11 e1
          go_wp2_with fail
          refine (place_any zk _).mono ?_
          rintro e w12 ⟨rfl, rfl⟩
          go_wp2_with fail
          refine (raw_ok ((good_dk _ _).below ((good_dk _ _).below HD8.out HBE.out) HB10.out) (pl zk) (pl_lt _)).mono ?_
          rw [show (wait M2 [] (A + len)).M (pl zk) = M2 (pl zk) from rfl]
          rintro e w13 ⟨rb, rfl, hrb, hb13⟩
          have hl13 : (M2 (pl zk)).length = 128 := by
            obtain ⟨_, _, h, _⟩ := HD8.out
            exact (h.ok.m _ (pl_lt zk)).1
          obtain ⟨ab, cbb, hvb⟩ := hrb.len
          rw [hl13] at hvb
          subst hvb
          have HRB := hide hrb
          have HB13 := hide (HB10.out.trans (hb13.mono HB10.out.size))
          have HWT1 := hide (HWT.out.below hb13 (Nat.le_refl _))
          have e2 := cell_up hb13 e0
          clear hrb hb13 hl13 e0
          go_wp2_with fail
          refine (place_any zk _).mono ?_
          rintro e w14 ⟨rfl, rfl⟩
          go_wp2_with fail
          refine (read_ok ((good_dk _ _).below ((good_dk _ _).below HD8.out HBE.out) HB13.out) (pl zk) (pl_lt _) rfl).mono ?_
          rw [show (wait M2 [] (A + len)).seen (pl zk) = M2 (pl zk) from rfl]
          rintro e w15 ⟨rc, rfl, hrc, hb15⟩
          have HRC := hide hrc
          have HRB1 := hide (HRB.out.below hb15 (Nat.le_refl _))
          have HWT2 := hide (HWT1.out.below hb15 (Nat.le_refl _))
          have HB15 := hide (HB13.out.trans (hb15.mono HB13.out.size))
          clear hrc hb15 e2
          go_wp2_with fail
          refine (same_eq _ _ _ _ (by have := HRB1.out.rd; rw [HM3.out] at this; exact this) HWT2.out).mono ?_
          rintro e w16 ⟨rfl, rfl⟩
          go_wp2_with fail
          refine (same_eq _ _ _ _ (by have := HRC.out.rd; rw [HM3.out] at this; exact this) HWT2.out).mono ?_
          rintro e w17 ⟨rfl, rfl⟩
          go_wp2
          go_roundw
          case rel => exact ⟨k + 1, by omega, by go_num, by rw [HNX.out], HBE.out.trans (HB15.out.mono HBE.out.size)⟩
          case measure => simp [intOf]; omega
    · obtain rfl : k = len := by omega
      have HW := hide (HW8.out.trans (hbel.mono HW8.out.size))
      have HBE := hide hbel
      rw [HC.out, Int.sub_self]
      clear hbel
      go_wp2
      go_loopw [19] (fun i wr => ∃ q : Nat, q ≤ k ∧ i = .int .i64 (q : Int) ∧ Below w9.heap.size w9 wr) (fun i _ => k - (intOf i).toNat)
      case atStart => exact ⟨0, Nat.zero_le _, rfl, HBE.out⟩
      case round =>
        obtain ⟨q, hq, rfl, hbel⟩ := hrel
        by_cases hlt : q < k
        · have hd1 : decide (q < k) = true := by simp; omega
          have hbw : Below w.heap.size w wr := HW8.out.trans (hbel.mono HW8.out.size)
          obtain ⟨x, hx, _, hp⟩ := HPN.out.at hlt
          subst hx
          obtain ⟨c0, _⟩ := hp _ hbel
          obtain ⟨gv, rk, hgv, cv0, hrk⟩ := HV2.out q _ (rawsOf_get M Zn hlt)
          subst hgv
          obtain ⟨zq, hzq⟩ : ∃ zq, (Zn q).1 = zq := ⟨_, rfl⟩
          rw [hzq] at c0 hrk
          obtain ⟨ps, hps⟩ : ∃ ps, pl zq = ps := ⟨_, rfl⟩
          have hpl := pl_lt zq
          rw [hps] at hrk hpl
          have d0 := cell_up hbel cv0
          have HRK := hide (hrk.below hbel (Nat.le_refl _))
          have HBQ := hide hbel
          have HBW := hide hbw
          clear hp hrk hbel hbw cv0
          go_wp2_with fail
          refine (place_any zq _).mono ?_
          rw [hps]
          rintro e w10 ⟨rfl, rfl⟩
          go_wp2_with fail
          refine (raw_ok ((good_dk _ _).below HD8.out HBQ.out) ps hpl).mono ?_
          rw [show (wait M2 [] (A + k)).M ps = M2 ps from rfl]
          rintro e w11 ⟨rb, rfl, hrb, hb11⟩
          have d1 := cell_up hb11 d0
          have HQ := hide (And.intro hrb.rd (And.intro (HRK.out.below hb11 (Nat.le_refl _)) (HBQ.out.trans (hb11.mono HBQ.out.size))))
          have HBW1 := hide (HBW.out.trans (hb11.mono HBW.out.size))
          clear hrb hb11 d0 c0
          go_wp2_with fail
          refine (among_any a1 k cap ps Z hlen HZ.out HBW1.out).mono ?_
          rintro e w12 (⟨rfl, rfl, hno⟩ | ⟨rfl, rfl⟩)
          · have HMS := hide (HMN.out ps hno)
            go_wp2_with fail
            refine (same_eq _ _ _ _ (by have := HQ.out.1; rw [HMS.out] at this; exact this) HQ.out.2.1).mono ?_
            rintro e w13 ⟨rfl, rfl⟩
            clear d1
            go_wp2
            go_roundw
            case rel => exact ⟨q + 1, by omega, by go_num, HQ.out.2.2⟩
            case measure => simp [intOf]; omega
          · clear d1
            go_wp2
            go_roundw
            case rel => exact ⟨q + 1, by omega, by go_num, HQ.out.2.2⟩
            case measure => simp [intOf]; omega
        · obtain rfl : q = k := by omega
          have HE := hide (HW8.out.trans (hbel.mono HW8.out.size))
          clear hbel
          go_wp2
          go_ret
          exact ⟨by simp, HE.out⟩
end Go.Proofs.Ytemkmjeioghofaa
