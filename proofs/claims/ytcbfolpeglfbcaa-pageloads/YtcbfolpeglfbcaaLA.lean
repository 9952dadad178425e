import Derived.Test.YtcbfolpeglfbcaaGJ
namespace Go.Proofs.Ytcbfolpeglfbcaa
open Go.RowKit
set_option maxRecDepth 100000 in
set_option maxHeartbeats 4000000 in
theorem loads_walk (a : Option Addr) (len cap : Nat) (Z : Nat → Ost) (a' : Option Addr) (len' cap' : Nat) (Y : Nat → Mp) (w : World) (hl : len ≤ maxLen) (hz : IsOps w a len Z) (hl2 : len' * 24 ≤ 140737488351232) (hy : IsMaps w a' len' Y) :
    Calls Try.prog 7 #[.slice a len cap, .slice a' len' cap'] w fun e w' => e = .returned (.bool true) ∧ Below w.heap.size w w' := by
  obtain ⟨i50, hi50, hz50, hs50, hb50⟩ := info50'
  have HZ := hide hz
  have HY := hide hy
  have hl' : len ≤ 9223372036854775807 := hl
  have hl3 : len' ≤ maxLen := by unfold maxLen; omega
  clear hz hy
  go_enter Try.func7, Try.ntmps7
  go_wp2_with fail
  refine (first_any w).mono ?_
  rintro e w1 ⟨rfl, h1, hb1⟩
  have H1 := hide (And.intro h1 hb1)
  clear h1 hb1
  go_wp2_with fail
  refine (first_any w1).mono ?_
  rintro e w2 ⟨rfl, h2, hb2⟩
  have HS1 : Hid (Tw w w2 w.heap.size w1.heap.size (upd nil 3 (some (7, false))) (upd nil 3 (some (7, false)))) := hide ⟨H1.out.1.below hb2, h2, first_sm, first_sm, H1.out.2.trans (hb2.mono H1.out.2.size), Nat.le_refl _, H1.out.2.size, by have := H1.out.1.lt; omega⟩
  clear h2 hb2 H1
  obtain ⟨B, hB⟩ : ∃ B, w.heap.size = B := ⟨_, rfl⟩
  obtain ⟨C, hC⟩ : ∃ C, w1.heap.size = C := ⟨_, rfl⟩
  rw [hB, hC] at HS1 ⊢
  generalize upd nil 3 (some (7, false)) = m0 at *
  go_upto_region 6 with fail
  go_loopw [7] (fun i wr => ∃ (k : Nat) (m : Nat → E), k ≤ len ∧ i = .int .i64 (k : Int) ∧ Tw w wr B C m m0) (fun i _ => len - (intOf i).toNat)
  case atStart => exact ⟨0, _, by omega, rfl, HS1.out⟩
  case round =>
    obtain ⟨k, m, hk, rfl, hS⟩ := hrel
    clear HS1
    by_cases hlt : k < len
    · have hd : decide (k < len) = true := by simp; omega
      obtain ⟨x, hx, ho⟩ := (HZ.out.below hS.b) k hlt
      subst hx
      have HO := hide ho
      have HS := hide hS
      clear ho hS
      go_wp2_with (refine load_st 31 _ Try.underlying31 rfl (Z k).cells info31 rfl _ rfl (x.add (k * 7)) rfl HO.out.c ?_)
      refine (done_any wr B m (Z k) HS.out.t HO.out.z HO.out.l).mono ?_
      rintro e w2 ⟨c, m', rfl, hst, hg⟩
      have HS2 := hide (HS.out.go hg (hst.sm HS.out.s))
      clear hst hg HS HO
      go_wp2
      go_roundw
      case rel => exact ⟨k + 1, m', by omega, by go_num, HS2.out⟩
      case measure => simp [intOf]; omega
    · have hd : decide (k < len) = false := by simp; omega
      have HS := hide hS
      clear hS HZ
      go_wp2_with fail
      refine (seen_any wr B m HS.out.t).mono ?_
      rintro e w3 ⟨rfl, hb3⟩
      obtain ⟨hn, hb4⟩ := seen_new w3 m
      have hBN : B ≠ w3.heap.size := by have := (HS.out.below hb3).t.lt; omega
      have HX := hide (And.intro ((HS.out.below hb3).below hb4) hn)
      rw [sc_nil] at HX
      clear hn hb4 hb3 HS
      go_upto_region 10 with (refine wpList_store_row rfl 35 _ _ rfl w3.heap.size (sc m).toArray rfl rfl 35 _ (heap_alloc_last w3 _) (by simp only [List.size_toArray, sc_len]; exact info35) (by simp only [List.size_toArray, sc_len]; rfl) (all_oneCell_toArray (sc_one m)) ?_)
      generalize (w3.alloc (.cells _ 35)).setRow w3.heap.size (sc m).toArray = w4 at *
      generalize w3.heap.size = N at *
      clear hd hlt
      go_wp2_with fail
      refine (own_any w4 a' len' cap' Y (HY.out.below HX.out.1.b) hl2).mono ?_
      rintro e w5 ⟨r, rfl, ho, hb5⟩
      obtain ⟨ar, cr, he⟩ := ho.len
      rw [fst_len] at he
      subst he
      have hmp := ho.maps
      rw [fst_len] at hmp
      have hcg : lay (fun k => (fst Y len').getD k Mp.nil) len' = lay Y len' := lay_congr fun k hk => fst_get Y hk
      have HX2 := hide (And.intro (HX.out.1.below hb5) (HX.out.2.below hb5))
      have HM := hide hmp
      clear HX hb5 ho hmp
      have hld := load_any w5 B m ar len' cr _ HX2.out.1.t HM.out hl3
      rw [hcg] at hld
      have hgd := fun (W : World) (h : IsMaps W a' len' Y) => good_any W a' len' cap' Y h hl3
      go_wp2_with fail
      refine hld.mono ?_
      have hi35 : (Try.prog.info? 35).map (·.size) = some (sc m).length := by rw [sc_len]; exact info35
      have hu35 := Try.underlying35
      rintro e w6 (⟨c, hc, rfl, hb6⟩ | ⟨m1, hm1, rfl, hg6⟩)
      · have hc0 := lay_err hc
        have hb : okB Y len' = false := by simp [okB, hc]
        have HX3 := hide (And.intro (HX2.out.1.below hb6) (HX2.out.2.below hb6))
        clear hld HX2 HM hb6
        have HG := hide (hgd w6 (HY.out.below HX3.out.1.b))
        rw [hb] at HG
        go_wp2_with fail
        refine HG.out.mono ?_
        rintro e w7 ⟨rfl, hb7⟩
        have HX4 := hide (And.intro (HX3.out.1.below hb7) (HX3.out.2.below hb7))
        have hr := HX4.out.2.all
        have hcb : (c == 0) = false := by simpa using hc0
        have he35 := eq35 m m
        rw [same_refl] at he35
        clear HX3 hb7 HG hgd
        go_upto_region 14 with fail
        go_region_held (fun W => W.rangeAt N 0 (sc m))
          (first | exact hr | exact (HX4.out.2.drew.below hb8).all)
          ((refine (seen_any _ B m HX4.out.1.t.drew).mono ?_; rintro e w8 ⟨rfl, hb8⟩))
        rename_i hHeld
        have HT : Hid (Tw w w8 B C m m0) := hide ((HX4.out.1.below ((Below.refl _ _).drew)).below hb8)
        clear hHeld hr HX4 hb8 he35 hcb hc hc0 hb hi35
        obtain ⟨W0, hW0⟩ : ∃ W0, w8 = W0 := ⟨_, rfl⟩
        obtain ⟨m2, hm2⟩ : ∃ m2, m = m2 := ⟨_, rfl⟩
        rw [hW0, hm2] at HT
        rw [hW0]
        clear hW0 hm2 HY
        go_wp2_with fail
        refine (entries_any W0 B m2 HT.out.t).mono ?_
        rintro e v1 ⟨rm, rfl, hE, hv1⟩
        obtain ⟨am, cm, he⟩ := hE.len
        subst he
        obtain ⟨L, hL⟩ : ∃ L, ents m2 16 = L := ⟨_, rfl⟩
        have hLl : L.length ≤ 16 := by rw [← hL]; exact ents_len m2 16
        obtain ⟨m3, hm3, hsm3⟩ := ents_lay HT.out.s (L := ents m2 16) (fun _ => Iff.rfl) (ents_ne m2 16)
        obtain ⟨m4, hm4, hsm4⟩ := ents_lay HT.out.s (L := (ents m2 16).reverse) (fun _ => List.mem_reverse) (ents_rne m2 16)
        obtain ⟨G, hG⟩ : ∃ G : Nat → Mp, (fun k => L.getD k Mp.nil) = G := ⟨_, rfl⟩
        have hGa : ∀ k, L.getD k Mp.nil = G k := fun k => by rw [← hG]
        have hup : ∀ i, i + 1 < L.length → (G i).v < (G (i + 1)).v := fun i hi => by rw [← hGa, ← hGa]; rw [← hL] at hi ⊢; exact ents_up hi
        rw [hL] at hE hm3 hm4 ⊢
        rw [hG] at hm3
        obtain ⟨n, hn⟩ : ∃ n, L.length = n := ⟨_, rfl⟩
        have hrl : L.reverse.length = n := by rw [List.length_reverse, hn]
        rw [hrl] at hm4
        have HE := hide (And.intro hE (HT.out.below hv1))
        have hmp := HE.out.1.maps
        rw [hG] at hmp
        rw [hn] at hm3 hmp hLl ⊢
        have HU : Hid (∀ i, i + 1 < n → (G i).v < (G (i + 1)).v) := hide (fun i hi => hup i (by omega))
        have HGa := hide hGa
        have HP := hide (And.intro hm3 (And.intro hsm3 (And.intro hm4 hsm4)))
        have HM2 := hide hmp
        clear hE hm3 hsm3 hm4 hsm4 hv1 HT hup hmp hG hGa
        have hgm := good_any v1 am n cm G HM2.out (by unfold maxLen; omega)
        rw [okB_ok HP.out.1] at hgm
        go_wp2_with fail
        refine hgm.mono ?_
        rintro e v2 ⟨rfl, hv2⟩
        have HE2 := hide (And.intro (HE.out.1.below hv2) (HE.out.2.below hv2))
        have HM3 := hide (HM2.out.below hv2)
        clear HE HM2 hv2 hgm
        go_wp2_with fail
        refine (seen_any v2 B m2 HE2.out.2.t).mono ?_
        rintro e v3 ⟨rfl, hv3⟩
        have HE3 := hide (And.intro (HE2.out.1.below hv3) (HE2.out.2.below hv3))
        have HM4 := hide (HM3.out.below hv3)
        clear HE2 HM3 hv3
        have hls := listed_any v3 m2 m3 am n cm G HM4.out (by unfold maxLen; omega) HP.out.1
        rw [HP.out.2.1] at hls
        go_wp2_with fail
        refine hls.mono ?_
        rintro e v4 ⟨rfl, hv4⟩
        have HE4 := hide (And.intro (HE3.out.1.below hv4) (HE3.out.2.below hv4))
        have HM5 := hide (HM4.out.below hv4)
        clear HE3 HM4 hv4 hls
        go_upto_region 21 with fail
        obtain ⟨Q, hQ⟩ : ∃ Q, v4.heap.size = Q := ⟨_, rfl⟩
        go_loopw [12, 11] (fun i v wr => ∃ k : Nat, k ≤ n ∧ i = .int .i64 ((n : Int) - 1 - (k : Int)) ∧ OwM wr Q v (L.reverse.take k) ∧ Below Q v4 wr) (fun i _ _ => (intOf i + 1).toNat)
        case atStart => exact ⟨0, by omega, by go_num, OwM.nil _ _, Below.refl _ _⟩
        case round =>
          obtain ⟨k, hk, rfl, hO, hbk⟩ := hrel
          by_cases hlt : k < n
          · obtain ⟨i, hi⟩ : ∃ i : Nat, (n : Int) - 1 - (k : Int) = (i : Int) := ⟨n - 1 - k, by omega⟩
            rw [hi]
            have hil : i < n := by omega
            have hik : i = n - 1 - k := by omega
            obtain ⟨ab, cb, hab⟩ := hO.len
            have htl : (L.reverse.take k).length = k := by rw [List.length_take, hrl]; omega
            rw [htl] at hab
            subst hab
            have hM6 := HM5.out.below (by rw [hQ]; exact hbk)
            obtain ⟨x, hx, hcl⟩ := hM6 i hil
            subst hx
            obtain ⟨c0, c1, c2⟩ := hM6.c hil
            have d0 : decide ((0 : Int) ≤ (i : Int)) = true := by simp
            have HO := hide (And.intro hO hbk)
            have HO2 : Hid (wr.ownsRow Q 50 3 (.slice ab k cb) k (mcs (L.reverse.take k))) := hide (by have := hO.out; rw [htl] at this; exact this)
            have e0 : (G i).cells = [.int .i64 (G i).v, .int .i64 (G i).s, .bool (G i).b] := rfl
            rw [e0] at hcl
            have HC := hide hcl
            have hrt := rev_take (L := L) (k := k) (by omega)
            rw [hn, ← hik, HGa.out] at hrt
            have HRT := hide hrt
            have hQw : Q ≤ wr.heap.size := by have := hbk.size; omega
            have HI := hide (And.intro hi hik)
            clear hO hbk e0 hcl hrt hi hik
            by_cases hi0 : i = 0
            · have g0 : decide ((0 : Int) < (i : Int)) = false := by simp; omega
              have g1 : decide (0 < i) = false := by simp; omega
              clear hi0
              go_upto_region 23 with fail
              go_quiet (fail)
              have HO3 : Hid ((wr.drewN nq).ownsRow Q 50 3 (.slice ab k cb) k (mcs (L.reverse.take k))) := hide HO2.out
              have HC3 : Hid (∀ (j : Nat) (v : Value), [Value.int .i64 (G i).v, .int .i64 (G i).s, .bool (G i).b][j]? = some v → (wr.drewN nq).cell? ((x.add (i * 3)).add j) = some v) := hide HC.out
              have HBk : Hid (Below Q v4 (wr.drewN nq)) := hide (below_drewN HO.out.2 nq)
              have hQv : Q ≤ (wr.drewN nq).heap.size := hQw
              clear g0 g1 HO2 HC HO hQw c0 c1 c2
              generalize wr.drewN nq = v5 at *
              go_wp2_with (first
                | refine load_st 50 _ Try.underlying50 rfl [.int .i64 (G i).v, .int .i64 (G i).s, .bool (G i).b] info50 rfl _ rfl (x.add (i * 3)) rfl HC3.out ?_
                | (at_builtin; refine wpList_append_own _ rfl _ _ 29 rfl Q 50 i50 (.agg #[.int .i64 0, .int .i64 0, .bool false]) 3 24 Try.underlying29 hi50 hz50 hs50 hb50 rfl (by decide) _ k (mcs (L.reverse.take k)) rfl (HO3.out.alloc _) ⟨v5.heap.size, 0, none⟩ 1 1 (G i).cells rfl rfl ?ca1 (cells_one _) ?ca3 ?ca4 ?ca5 ?_))
              case ca1 => exact cells_new v5 (G i)
              case ca3 => unfold maxLen; omega
              case ca4 => omega
              case ca5 => simp; omega
              intro r2 v6 hown hg _
              have H2 : Hid (OwM v6 Q r2 (L.reverse.take (k + 1))) := hide ⟨by
                have e1 : (L.reverse.take (k + 1)).length = k + 1 := by rw [List.length_take, hrl]; omega
                rw [e1, HRT.out, mcs_snoc]; exact hown⟩
              have HB2 : Hid (Below Q v4 v6) := by rw [← hQ]; exact hide (below_own (w := v4) (by rw [hQ]; exact HBk.out) (by rw [hQ]; exact HO3.out) hg (by rw [hQ]; exact hQv))
              clear hown hg HC3 HO3 HBk
              go_wp2
              go_roundw
              case rel => exact ⟨k + 1, by omega, by have := HI.out.1; go_num, H2.out, HB2.out⟩
              case measure => have := HI.out.1; simp [intOf] <;> omega
            · obtain ⟨p, hp⟩ : ∃ p, i = p + 1 := ⟨i - 1, by omega⟩
              have hpi : (i : Int) - 1 = (p : Int) := by omega
              have hw1 : IntKind.i64.wrap ((i : Int) - 1) = (p : Int) := by rw [IntKind.wrap_i64]; omega
              have hw2 : IntKind.i64.wrap (p : Int) = (p : Int) := by rw [IntKind.wrap_i64]; omega
              have g0 : decide ((0 : Int) < (i : Int)) = true := by simp; omega
              have g1 : decide (0 < i) = true := by simp; omega
              have hpl : p < n := by omega
              obtain ⟨e0, _, _⟩ := hM6.c hpl
              have hlt2 : (G p).v < (G i).v := by have := HU.out p (by omega); rw [← hp] at this; exact this
              have hd2 : decide ((G i).v ≤ (G p).v) = false := by rw [decide_eq_false_iff_not]; omega
              have HP2 := hide hp
              clear hp hpi hi0
              go_upto_region 23 with fail
              go_quiet (fail)
              have HO3 : Hid ((wr.drewN nq).ownsRow Q 50 3 (.slice ab k cb) k (mcs (L.reverse.take k))) := hide HO2.out
              have HC3 : Hid (∀ (j : Nat) (v : Value), [Value.int .i64 (G i).v, .int .i64 (G i).s, .bool (G i).b][j]? = some v → (wr.drewN nq).cell? ((x.add (i * 3)).add j) = some v) := hide HC.out
              have HBk : Hid (Below Q v4 (wr.drewN nq)) := hide (below_drewN HO.out.2 nq)
              have hQv : Q ≤ (wr.drewN nq).heap.size := hQw
              clear g0 g1 hw1 hw2 e0 hlt2 hd2 HP2 HO2 HC HO hQw c0 c1 c2
              generalize wr.drewN nq = v5 at *
              go_wp2_with (first
                | refine load_st 50 _ Try.underlying50 rfl [.int .i64 (G i).v, .int .i64 (G i).s, .bool (G i).b] info50 rfl _ rfl (x.add (i * 3)) rfl HC3.out ?_
                | (at_builtin; refine wpList_append_own _ rfl _ _ 29 rfl Q 50 i50 (.agg #[.int .i64 0, .int .i64 0, .bool false]) 3 24 Try.underlying29 hi50 hz50 hs50 hb50 rfl (by decide) _ k (mcs (L.reverse.take k)) rfl (HO3.out.alloc _) ⟨v5.heap.size, 0, none⟩ 1 1 (G i).cells rfl rfl ?cb1 (cells_one _) ?cb3 ?cb4 ?cb5 ?_))
              case cb1 => exact cells_new v5 (G i)
              case cb3 => unfold maxLen; omega
              case cb4 => omega
              case cb5 => simp; omega
              intro r2 v6 hown hg _
              have H2 : Hid (OwM v6 Q r2 (L.reverse.take (k + 1))) := hide ⟨by
                have e1 : (L.reverse.take (k + 1)).length = k + 1 := by rw [List.length_take, hrl]; omega
                rw [e1, HRT.out, mcs_snoc]; exact hown⟩
              have HB2 : Hid (Below Q v4 v6) := by rw [← hQ]; exact hide (below_own (w := v4) (by rw [hQ]; exact HBk.out) (by rw [hQ]; exact HO3.out) hg (by rw [hQ]; exact hQv))
              clear hown hg HC3 HO3 HBk
              go_wp2
              go_roundw
              case rel => exact ⟨k + 1, by omega, by have := HI.out.1; go_num, H2.out, HB2.out⟩
              case measure => have := HI.out.1; simp [intOf] <;> omega
          · obtain rfl : k = n := by omega
            have hb : L.reverse.take k = L.reverse := List.take_of_length_le (by omega)
            rw [hb] at hO
            obtain ⟨ab, cb, hab⟩ := hO.len
            rw [hrl] at hab
            subst hab
            have hmp := hO.maps
            rw [hrl] at hmp
            have hE5 := HE4.out.2.below (by rw [hQ]; exact hbk)
            have hi1 : (k : Int) - 1 - (k : Int) = -1 := by omega
            rw [hi1]
            have d0 : decide ((0 : Int) ≤ -1) = false := by simp
            have HF := hide (And.intro hmp hE5)
            clear hO hbk hmp hE5 HE4 HM5 hb hi1
            go_wp2_with fail
            refine (load_any wr C m0 ab k cb (fun j => L.reverse.getD j Mp.nil) HF.out.2.t' HF.out.1 (by unfold maxLen; omega)).mono ?_
            rintro e v6 (⟨c', hc', rfl, hb6⟩ | ⟨m5, hm5, rfl, hg6⟩)
            · rw [HP.out.2.2.1] at hc'; cases hc'
            · rw [HP.out.2.2.1] at hm5
              cases hm5
              have HG := hide (HF.out.2.swap.go hg6 (lay_sm HP.out.2.2.1))
              have hs1 := HP.out.2.2.2
              have hs2 : same m2 m4 = true := by rw [same_comm]; exact hs1
              clear HF hg6
              go_wp2_with fail
              refine (equal_any v6 C B m4 m2 HG.out.t HG.out.t').mono ?_
              rw [hs1]
              rintro e v7 ⟨rfl, hb7⟩
              have HG2 := hide (HG.out.below hb7)
              clear HG hb7
              go_wp2_with fail
              refine (equal_any v7 B C m2 m4 HG2.out.t' HG2.out.t).mono ?_
              rw [hs2]
              rintro e v8 ⟨rfl, hb8⟩
              have HG3 := hide (HG2.out.below hb8)
              clear HG2 hb8
              go_wp2_with fail
              refine (seen_any v8 C m4 HG3.out.t).mono ?_
              rintro e v9 ⟨rfl, hb9⟩
              have HG4 := hide (HG3.out.below hb9)
              clear HG3 hb9
              go_wp2_with fail
              refine (seen_any v9 B m2 HG4.out.t').mono ?_
              rintro e v10 ⟨rfl, hb10⟩
              have HG5 := hide (HG4.out.below hb10).b
              have he35 := eq35 m4 m2
              rw [hs1] at he35
              clear HG4 hb10
              go_wp2
              go_ret
              exact ⟨rfl, HG5.out⟩
      · have hsm := lay_sm hm1
        have HX3 := hide (HX2.out.1.go hg6 hsm)
        have hb : okB Y len' = true := okB_ok hm1
        clear hld HX2 HM hg6 hi35
        have HG := hide (hgd w6 (HY.out.below HX3.out.b))
        rw [hb] at HG
        go_wp2_with fail
        refine HG.out.mono ?_
        rintro e w7 ⟨rfl, hb7⟩
        have HX4 := hide (HX3.out.below hb7)
        clear HX3 hb7 HG hgd
        go_wp2_with fail
        refine (seen_any w7 B m1 HX4.out.t).mono ?_
        rintro e w8 ⟨rfl, hb8⟩
        have HX5 := hide (HX4.out.below hb8)
        clear HX4 hb8
        have hls := listed_any w8 m1 m1 a' len' cap' Y (HY.out.below HX5.out.b) hl3 hm1
        rw [same_refl] at hls
        go_wp2_with fail
        refine hls.mono ?_
        rintro e w9 ⟨rfl, hb9⟩
        have HT : Hid (Tw w w9 B C m1 m0) := hide (HX5.out.below hb9)
        clear HX5 hb9 hls hb hm1 hsm
        obtain ⟨W0, hW0⟩ : ∃ W0, w9 = W0 := ⟨_, rfl⟩
        obtain ⟨m2, hm2⟩ : ∃ m2, m1 = m2 := ⟨_, rfl⟩
        rw [hW0, hm2] at HT
        rw [hW0]
        clear hW0 hm2 HY
        go_wp2_with fail
        refine (entries_any W0 B m2 HT.out.t).mono ?_
        rintro e v1 ⟨rm, rfl, hE, hv1⟩
        obtain ⟨am, cm, he⟩ := hE.len
        subst he
        obtain ⟨L, hL⟩ : ∃ L, ents m2 16 = L := ⟨_, rfl⟩
        have hLl : L.length ≤ 16 := by rw [← hL]; exact ents_len m2 16
        obtain ⟨m3, hm3, hsm3⟩ := ents_lay HT.out.s (L := ents m2 16) (fun _ => Iff.rfl) (ents_ne m2 16)
        obtain ⟨m4, hm4, hsm4⟩ := ents_lay HT.out.s (L := (ents m2 16).reverse) (fun _ => List.mem_reverse) (ents_rne m2 16)
        obtain ⟨G, hG⟩ : ∃ G : Nat → Mp, (fun k => L.getD k Mp.nil) = G := ⟨_, rfl⟩
        have hGa : ∀ k, L.getD k Mp.nil = G k := fun k => by rw [← hG]
        have hup : ∀ i, i + 1 < L.length → (G i).v < (G (i + 1)).v := fun i hi => by rw [← hGa, ← hGa]; rw [← hL] at hi ⊢; exact ents_up hi
        rw [hL] at hE hm3 hm4 ⊢
        rw [hG] at hm3
        obtain ⟨n, hn⟩ : ∃ n, L.length = n := ⟨_, rfl⟩
        have hrl : L.reverse.length = n := by rw [List.length_reverse, hn]
        rw [hrl] at hm4
        have HE := hide (And.intro hE (HT.out.below hv1))
        have hmp := HE.out.1.maps
        rw [hG] at hmp
        rw [hn] at hm3 hmp hLl ⊢
        have HU : Hid (∀ i, i + 1 < n → (G i).v < (G (i + 1)).v) := hide (fun i hi => hup i (by omega))
        have HGa := hide hGa
        have HP := hide (And.intro hm3 (And.intro hsm3 (And.intro hm4 hsm4)))
        have HM2 := hide hmp
        clear hE hm3 hsm3 hm4 hsm4 hv1 HT hup hmp hG hGa
        have hgm := good_any v1 am n cm G HM2.out (by unfold maxLen; omega)
        rw [okB_ok HP.out.1] at hgm
        go_wp2_with fail
        refine hgm.mono ?_
        rintro e v2 ⟨rfl, hv2⟩
        have HE2 := hide (And.intro (HE.out.1.below hv2) (HE.out.2.below hv2))
        have HM3 := hide (HM2.out.below hv2)
        clear HE HM2 hv2 hgm
        go_wp2_with fail
        refine (seen_any v2 B m2 HE2.out.2.t).mono ?_
        rintro e v3 ⟨rfl, hv3⟩
        have HE3 := hide (And.intro (HE2.out.1.below hv3) (HE2.out.2.below hv3))
        have HM4 := hide (HM3.out.below hv3)
        clear HE2 HM3 hv3
        have hls := listed_any v3 m2 m3 am n cm G HM4.out (by unfold maxLen; omega) HP.out.1
        rw [HP.out.2.1] at hls
        go_wp2_with fail
        refine hls.mono ?_
        rintro e v4 ⟨rfl, hv4⟩
        have HE4 := hide (And.intro (HE3.out.1.below hv4) (HE3.out.2.below hv4))
        have HM5 := hide (HM4.out.below hv4)
        clear HE3 HM4 hv4 hls
        go_upto_region 21 with fail
        obtain ⟨Q, hQ⟩ : ∃ Q, v4.heap.size = Q := ⟨_, rfl⟩
        go_loopw [12, 11] (fun i v wr => ∃ k : Nat, k ≤ n ∧ i = .int .i64 ((n : Int) - 1 - (k : Int)) ∧ OwM wr Q v (L.reverse.take k) ∧ Below Q v4 wr) (fun i _ _ => (intOf i + 1).toNat)
        case atStart => exact ⟨0, by omega, by go_num, OwM.nil _ _, Below.refl _ _⟩
        case round =>
          obtain ⟨k, hk, rfl, hO, hbk⟩ := hrel
          by_cases hlt : k < n
          · obtain ⟨i, hi⟩ : ∃ i : Nat, (n : Int) - 1 - (k : Int) = (i : Int) := ⟨n - 1 - k, by omega⟩
            rw [hi]
            have hil : i < n := by omega
            have hik : i = n - 1 - k := by omega
            obtain ⟨ab, cb, hab⟩ := hO.len
            have htl : (L.reverse.take k).length = k := by rw [List.length_take, hrl]; omega
            rw [htl] at hab
            subst hab
            have hM6 := HM5.out.below (by rw [hQ]; exact hbk)
            obtain ⟨x, hx, hcl⟩ := hM6 i hil
            subst hx
            obtain ⟨c0, c1, c2⟩ := hM6.c hil
            have d0 : decide ((0 : Int) ≤ (i : Int)) = true := by simp
            have HO := hide (And.intro hO hbk)
            have HO2 : Hid (wr.ownsRow Q 50 3 (.slice ab k cb) k (mcs (L.reverse.take k))) := hide (by have := hO.out; rw [htl] at this; exact this)
            have e0 : (G i).cells = [.int .i64 (G i).v, .int .i64 (G i).s, .bool (G i).b] := rfl
            rw [e0] at hcl
            have HC := hide hcl
            have hrt := rev_take (L := L) (k := k) (by omega)
            rw [hn, ← hik, HGa.out] at hrt
            have HRT := hide hrt
            have hQw : Q ≤ wr.heap.size := by have := hbk.size; omega
            have HI := hide (And.intro hi hik)
            clear hO hbk e0 hcl hrt hi hik
            by_cases hi0 : i = 0
            · have g0 : decide ((0 : Int) < (i : Int)) = false := by simp; omega
              have g1 : decide (0 < i) = false := by simp; omega
              clear hi0
              go_upto_region 23 with fail
              go_quiet (fail)
              have HO3 : Hid ((wr.drewN nq).ownsRow Q 50 3 (.slice ab k cb) k (mcs (L.reverse.take k))) := hide HO2.out
              have HC3 : Hid (∀ (j : Nat) (v : Value), [Value.int .i64 (G i).v, .int .i64 (G i).s, .bool (G i).b][j]? = some v → (wr.drewN nq).cell? ((x.add (i * 3)).add j) = some v) := hide HC.out
              have HBk : Hid (Below Q v4 (wr.drewN nq)) := hide (below_drewN HO.out.2 nq)
              have hQv : Q ≤ (wr.drewN nq).heap.size := hQw
              clear g0 g1 HO2 HC HO hQw c0 c1 c2
              generalize wr.drewN nq = v5 at *
              go_wp2_with (first
                | refine load_st 50 _ Try.underlying50 rfl [.int .i64 (G i).v, .int .i64 (G i).s, .bool (G i).b] info50 rfl _ rfl (x.add (i * 3)) rfl HC3.out ?_
                | (at_builtin; refine wpList_append_own _ rfl _ _ 29 rfl Q 50 i50 (.agg #[.int .i64 0, .int .i64 0, .bool false]) 3 24 Try.underlying29 hi50 hz50 hs50 hb50 rfl (by decide) _ k (mcs (L.reverse.take k)) rfl (HO3.out.alloc _) ⟨v5.heap.size, 0, none⟩ 1 1 (G i).cells rfl rfl ?cc1 (cells_one _) ?cc3 ?cc4 ?cc5 ?_))
              case cc1 => exact cells_new v5 (G i)
              case cc3 => unfold maxLen; omega
              case cc4 => omega
              case cc5 => simp; omega
              intro r2 v6 hown hg _
              have H2 : Hid (OwM v6 Q r2 (L.reverse.take (k + 1))) := hide ⟨by
                have e1 : (L.reverse.take (k + 1)).length = k + 1 := by rw [List.length_take, hrl]; omega
                rw [e1, HRT.out, mcs_snoc]; exact hown⟩
              have HB2 : Hid (Below Q v4 v6) := by rw [← hQ]; exact hide (below_own (w := v4) (by rw [hQ]; exact HBk.out) (by rw [hQ]; exact HO3.out) hg (by rw [hQ]; exact hQv))
              clear hown hg HC3 HO3 HBk
              go_wp2
              go_roundw
              case rel => exact ⟨k + 1, by omega, by have := HI.out.1; go_num, H2.out, HB2.out⟩
              case measure => have := HI.out.1; simp [intOf] <;> omega
            · obtain ⟨p, hp⟩ : ∃ p, i = p + 1 := ⟨i - 1, by omega⟩
              have hpi : (i : Int) - 1 = (p : Int) := by omega
              have hw1 : IntKind.i64.wrap ((i : Int) - 1) = (p : Int) := by rw [IntKind.wrap_i64]; omega
              have hw2 : IntKind.i64.wrap (p : Int) = (p : Int) := by rw [IntKind.wrap_i64]; omega
              have g0 : decide ((0 : Int) < (i : Int)) = true := by simp; omega
              have g1 : decide (0 < i) = true := by simp; omega
              have hpl : p < n := by omega
              obtain ⟨e0, _, _⟩ := hM6.c hpl
              have hlt2 : (G p).v < (G i).v := by have := HU.out p (by omega); rw [← hp] at this; exact this
              have hd2 : decide ((G i).v ≤ (G p).v) = false := by rw [decide_eq_false_iff_not]; omega
              have HP2 := hide hp
              clear hp hpi hi0
              go_upto_region 23 with fail
              go_quiet (fail)
              have HO3 : Hid ((wr.drewN nq).ownsRow Q 50 3 (.slice ab k cb) k (mcs (L.reverse.take k))) := hide HO2.out
              have HC3 : Hid (∀ (j : Nat) (v : Value), [Value.int .i64 (G i).v, .int .i64 (G i).s, .bool (G i).b][j]? = some v → (wr.drewN nq).cell? ((x.add (i * 3)).add j) = some v) := hide HC.out
              have HBk : Hid (Below Q v4 (wr.drewN nq)) := hide (below_drewN HO.out.2 nq)
              have hQv : Q ≤ (wr.drewN nq).heap.size := hQw
              clear g0 g1 hw1 hw2 e0 hlt2 hd2 HP2 HO2 HC HO hQw c0 c1 c2
              generalize wr.drewN nq = v5 at *
              go_wp2_with (first
                | refine load_st 50 _ Try.underlying50 rfl [.int .i64 (G i).v, .int .i64 (G i).s, .bool (G i).b] info50 rfl _ rfl (x.add (i * 3)) rfl HC3.out ?_
                | (at_builtin; refine wpList_append_own _ rfl _ _ 29 rfl Q 50 i50 (.agg #[.int .i64 0, .int .i64 0, .bool false]) 3 24 Try.underlying29 hi50 hz50 hs50 hb50 rfl (by decide) _ k (mcs (L.reverse.take k)) rfl (HO3.out.alloc _) ⟨v5.heap.size, 0, none⟩ 1 1 (G i).cells rfl rfl ?cd1 (cells_one _) ?cd3 ?cd4 ?cd5 ?_))
              case cd1 => exact cells_new v5 (G i)
              case cd3 => unfold maxLen; omega
              case cd4 => omega
              case cd5 => simp; omega
              intro r2 v6 hown hg _
              have H2 : Hid (OwM v6 Q r2 (L.reverse.take (k + 1))) := hide ⟨by
                have e1 : (L.reverse.take (k + 1)).length = k + 1 := by rw [List.length_take, hrl]; omega
                rw [e1, HRT.out, mcs_snoc]; exact hown⟩
              have HB2 : Hid (Below Q v4 v6) := by rw [← hQ]; exact hide (below_own (w := v4) (by rw [hQ]; exact HBk.out) (by rw [hQ]; exact HO3.out) hg (by rw [hQ]; exact hQv))
              clear hown hg HC3 HO3 HBk
              go_wp2
              go_roundw
              case rel => exact ⟨k + 1, by omega, by have := HI.out.1; go_num, H2.out, HB2.out⟩
              case measure => have := HI.out.1; simp [intOf] <;> omega
          · obtain rfl : k = n := by omega
            have hb : L.reverse.take k = L.reverse := List.take_of_length_le (by omega)
            rw [hb] at hO
            obtain ⟨ab, cb, hab⟩ := hO.len
            rw [hrl] at hab
            subst hab
            have hmp := hO.maps
            rw [hrl] at hmp
            have hE5 := HE4.out.2.below (by rw [hQ]; exact hbk)
            have hi1 : (k : Int) - 1 - (k : Int) = -1 := by omega
            rw [hi1]
            have d0 : decide ((0 : Int) ≤ -1) = false := by simp
            have HF := hide (And.intro hmp hE5)
            clear hO hbk hmp hE5 HE4 HM5 hb hi1
            go_wp2_with fail
            refine (load_any wr C m0 ab k cb (fun j => L.reverse.getD j Mp.nil) HF.out.2.t' HF.out.1 (by unfold maxLen; omega)).mono ?_
            rintro e v6 (⟨c', hc', rfl, hb6⟩ | ⟨m5, hm5, rfl, hg6⟩)
            · rw [HP.out.2.2.1] at hc'; cases hc'
            · rw [HP.out.2.2.1] at hm5
              cases hm5
              have HG := hide (HF.out.2.swap.go hg6 (lay_sm HP.out.2.2.1))
              have hs1 := HP.out.2.2.2
              have hs2 : same m2 m4 = true := by rw [same_comm]; exact hs1
              clear HF hg6
              go_wp2_with fail
              refine (equal_any v6 C B m4 m2 HG.out.t HG.out.t').mono ?_
              rw [hs1]
              rintro e v7 ⟨rfl, hb7⟩
              have HG2 := hide (HG.out.below hb7)
              clear HG hb7
              go_wp2_with fail
              refine (equal_any v7 B C m2 m4 HG2.out.t' HG2.out.t).mono ?_
              rw [hs2]
              rintro e v8 ⟨rfl, hb8⟩
              have HG3 := hide (HG2.out.below hb8)
              clear HG2 hb8
              go_wp2_with fail
              refine (seen_any v8 C m4 HG3.out.t).mono ?_
              rintro e v9 ⟨rfl, hb9⟩
              have HG4 := hide (HG3.out.below hb9)
              clear HG3 hb9
              go_wp2_with fail
              refine (seen_any v9 B m2 HG4.out.t').mono ?_
              rintro e v10 ⟨rfl, hb10⟩
              have HG5 := hide (HG4.out.below hb10).b
              have he35 := eq35 m4 m2
              rw [hs1] at he35
              clear HG4 hb10
              go_wp2
              go_ret
              exact ⟨rfl, HG5.out⟩
end Go.Proofs.Ytcbfolpeglfbcaa
