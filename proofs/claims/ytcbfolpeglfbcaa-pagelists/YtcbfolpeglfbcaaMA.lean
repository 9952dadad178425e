import Derived.Test.YtcbfolpeglfbcaaGL
namespace Go.Proofs.Ytcbfolpeglfbcaa
open Go.RowKit
theorem tk {P : Program} {md : Region.Mode} {ops : Array Oper} {Q : Exit → Act → World → Prop} {S : World → Prop} {i : Nat} {oi : Oper} {v : Value} {fuel : Nat} {listed : Array Bool} {a : Act} {w : World} (hi : ops[i]? = some oi)
    (hs : Region.noSelect ops = true) (hf : Region.free md ops listed i = true) (hr : (Region.ready md ops listed).contains i = true)
    (hQ : ∀ c a w, Q (.panic c) (a.put oi.dst v) w → Q (.panic c) a w) (hw : Region.wanted oi (yielded ops a.tmps) = true) (hy : ∀ w, S w → (execOp a.eval oi).run P w = .ok (.value v) w) (hS : S w) (d : Tmp) (hd : oi.dst = some d) (a' : Act) (ha : a' = a.put (some d) v)
    (h : wpAnyH P md ops Q S fuel (listed.setIfInBounds i true) a' w) : wpAnyH P md ops Q S (fuel + 1) listed a w :=
  wpAnyH_take hi hs hf hr hQ (.inl ⟨hw, hy⟩) hS (by rw [hd]; exact ha ▸ h)
theorem tk35 {md : Region.Mode} {ops : Array Oper} {Q : Exit → Act → World → Prop} {i : Nat} {oi : Oper} {fuel : Nat} {listed : Array Bool} {a : Act} {w : World} (hi : ops[i]? = some oi)
    (hs : Region.noSelect ops = true) (hf : Region.free md ops listed i = true) (hr : (Region.ready md ops listed).contains i = true) {m : Nat → E} {N : Nat}
    (hQ : ∀ c a w, Q (.panic c) (a.put oi.dst (.agg (sc m).toArray)) w → Q (.panic c) a w) (hw : Region.wanted oi (yielded ops a.tmps) = true) (x : Operand) (ho : oi.op = .load 35 x) (hx : a.eval x = .pointer (some ⟨N, 0, none⟩)) (hS : w.rangeAt N 0 (sc m)) (d : Tmp) (hd : oi.dst = some d) (a' : Act) (ha : a' = a.put (some d) (.agg (sc m).toArray))
    (h : wpAnyH Try.prog md ops Q (fun W => W.rangeAt N 0 (sc m)) fuel (listed.setIfInBounds i true) a' w) : wpAnyH Try.prog md ops Q (fun W => W.rangeAt N 0 (sc m)) (fuel + 1) listed a w :=
  wpAnyH_take hi hs hf hr hQ (yieldsIf_load_mid hw 35 _ ho N 0 hx (sc m) _ (fun _ h => h) Try.underlying35 rfl (by rw [sc_len]; exact info35)) hS (by rw [hd]; exact ha ▸ h)
theorem Sys.sw5 {w wr : World} {R A B C D X Y : Asn} (h : Sys w wr (star A (star B (star C (star D (star X (star Y R))))))) : Sys w wr (star Y (star A (star B (star C (star D (star X R)))))) :=
  h.mono fun _ _ h => star_swap (star_mono (fun _ _ h => star_swap (star_mono (fun _ _ h => star_swap (star_mono (fun _ _ h => star_swap (star_mono (fun _ _ => star_swap) h)) h)) h)) h)
def M4 (i : Nat) : Mp := ⟨15, 40 + (i : Int), false⟩
/-- the list and the first i of the four behind it -/
def fl (Y : Nat → Mp) (n i : Nat) : List Mp := fst Y n ++ fst M4 i
theorem fl_len (Y : Nat → Mp) (n i : Nat) : (fl Y n i).length = n + i := by simp [fl, fst_len]
theorem fl_succ (Y : Nat → Mp) (n i : Nat) : fl Y n (i + 1) = fl Y n i ++ [M4 i] := by simp [fl, fst_succ]
theorem fl_lo (Y : Nat → Mp) {n i k : Nat} (h : k < n) : (fl Y n i)[k]? = some (Y k) := by
  unfold fl; rw [List.getElem?_append_left (by rw [fst_len]; exact h)]; simp [fst, h]
theorem fl_hi (Y : Nat → Mp) {n i k : Nat} (h : k < i) : (fl Y n i)[n + k]? = some (M4 k) := by
  unfold fl; rw [List.getElem?_append_right (by rw [fst_len]; omega), fst_len, Nat.add_sub_cancel_left]; simp [fst, h]
set_option maxRecDepth 100000 in
set_option maxHeartbeats 8000000 in
theorem lists_walk (a : Option Addr) (len cap : Nat) (Z : Nat → Ost) (a' : Option Addr) (len' cap' : Nat) (Y : Nat → Mp) (w : World) (hl : len ≤ maxLen) (hz : IsOps w a len Z) (hl2 : len' * 24 ≤ 140737488351232) (hy : IsMaps w a' len' Y) :
    Calls Try.prog 8 #[.slice a len cap, .slice a' len' cap'] w fun e w' => e = .returned (.bool true) ∧ Below w.heap.size w w' := by
  obtain ⟨i50, hi50, hz50, hs50, hb50⟩ := info50'
  have HZ := hide hz
  have HY := hide hy
  have hl' : len ≤ 9223372036854775807 := hl
  have hl3 : len' ≤ maxLen := by unfold maxLen; omega
  clear hz hy
  go_enter Try.func8, Try.ntmps8
  go_wp2_with fail
  refine (first_any w).mono ?_
  rintro e w1 ⟨rfl, h1, hb1⟩
  have HS1 : Hid (Ts w w1 w.heap.size (upd nil 3 (some (7, false)))) := hide ⟨h1, first_sm, hb1, Nat.le_refl _⟩
  clear h1 hb1
  obtain ⟨B, hB⟩ : ∃ B, w.heap.size = B := ⟨_, rfl⟩
  rw [hB] at HS1 ⊢
  go_upto_region 5 with fail
  go_loopw [6] (fun i wr => ∃ (k : Nat) (m : Nat → E), k ≤ len ∧ i = .int .i64 (k : Int) ∧ Ts w wr B m) (fun i _ => len - (intOf i).toNat)
  case atStart => exact ⟨0, _, by omega, rfl, HS1.out⟩
  case round =>
    obtain ⟨k, m, hk, rfl, hS⟩ := hrel
    clear HS1
    by_cases hlt : k < len
    · have hd : decide (k < len) = true := by simp; omega
      obtain ⟨x, hx, ho⟩ := (HZ.out.below hS.b) k hlt
      subst hx
      have HO := hide ho
      have HS := hide hS
      clear ho hS
      go_wp2_with (refine load_st 31 _ Try.underlying31 rfl (Z k).cells info31 rfl _ rfl (x.add (k * 7)) rfl HO.out.c ?_)
      refine (done_any wr B m (Z k) HS.out.t HO.out.z HO.out.l).mono ?_
      rintro e w2 ⟨c, m', rfl, hst, hg⟩
      have HS2 := hide (HS.out.go hg (hst.sm HS.out.s))
      clear hst hg HS HO
      go_wp2
      go_roundw
      case rel => exact ⟨k + 1, m', by omega, by go_num, HS2.out⟩
      case measure => simp [intOf]; omega
    · have hd : decide (k < len) = false := by simp; omega
      have HY1 := HY.out.below hS.b
      have hT : Sys w wr (star (TbA B m) emp) := ⟨fun b => b = B, ⟨fun b => b = B, fun _ => False, ⟨hS.t, fun _ => Iff.rfl⟩, fun _ h => h, fun b => by simp, fun _ _ h => h⟩, fun b hb => by rw [hb]; exact hS.l, hS.b⟩
      have HSm := hide hS.s
      have HS := hide hT
      clear hS HZ hT
      go_wp2_with fail
      refine (own_any wr a' len' cap' Y HY1 hl2).mono ?_
      rintro e w5 ⟨r, rfl, ho, hb5⟩
      have H2 := hide (HS.out.newMp ((good_tb B m).star good_emp) ho hb5)
      have hfl : fst Y len' = fl Y len' 0 := by simp [fl, fst]
      rw [hfl] at H2
      clear HS hb5 HY1 ho hfl
      go_upto_region 10 with fail
      clear hd hlt
      go_loopw [8, 7] (fun i v wr => ∃ j : Nat, j ≤ 4 ∧ i = .int .i64 (j : Int) ∧ Sys w wr (star (MpA v (fl Y len' j)) (star (TbA B m) emp))) (fun i _ _ => 4 - (intOf i).toNat)
      case atStart => exact ⟨0, by omega, rfl, H2.out⟩
      case round =>
        obtain ⟨j, hj, rfl, hS⟩ := hrel
        clear H2
        by_cases hlt : j < 4
        · have hd : decide ((j : Int) < 4) = true := by simp; omega
          obtain ⟨a2, c2, he⟩ := hS.mp.len
          rw [fl_len] at he
          subst he
          have HO2 : Hid (wr.ownsRow 0 50 3 (.slice a2 (len' + j) c2) (len' + j) (mcs (fl Y len' j))) := hide (by have := hS.mp.out; rw [fl_len] at this; exact this)
          have HS := hide hS
          clear hS
          go_wp2_with (at_builtin; refine wpList_append_own_at _ rfl _ _ 29 rfl 0 50 i50 (.agg #[.int .i64 0, .int .i64 0, .bool false]) 3 24 Try.underlying29 hi50 hz50 hs50 hb50 rfl (by decide) _ (len' + j) (mcs (fl Y len' j)) rfl (HO2.out.alloc _) ⟨wr.heap.size, 0, none⟩ 1 1 (M4 j).cells rfl rfl ?c1 (cells_one _) ?c3 ?c4 ?c5 ?_)
          case c1 => exact cells_new wr (M4 j)
          case c3 => unfold maxLen; omega
          case c4 => omega
          case c5 => omega
          intro r2 w6 hown hg _ hloc
          have H3 := hide (HS.out.appM ((good_tb B m).star good_emp) (z := M4 j) (by rw [fl_len]; exact hown) hg hloc)
          rw [← fl_succ] at H3
          clear hown hg hloc HS HO2
          go_wp2
          go_roundw
          case rel => exact ⟨j + 1, by omega, by go_num, H3.out⟩
          case measure => simp [intOf]; omega
        · have hd : decide ((j : Int) < 4) = false := by simp; omega
          have hj4 : j = 4 := by omega
          rw [hj4] at hS
          clear hj4
          obtain ⟨g, cf, he, hcap, _, _⟩ := hS.mp.some_of (by rw [fl_len]; omega)
          rw [fl_len] at he hcap
          subst he
          have hmp := hS.mp.maps
          rw [fl_len] at hmp
          have HS := hide hS
          have HM := hide (hmp.le (k := len') (by omega))
          clear hS hmp
          go_wp2_with fail
          refine (load_gen wr B m (some ⟨g, 0, none⟩) len' cf _ HS.out.sw.tb HSm.out HM.out hl3).mono ?_
          rintro e w7 ⟨c, m1, rfl, hsm1, hg7⟩
          have H3 := hide (HS.out.sw.tgo ((good_mp _ _).star good_emp) hg7).sw
          have HSm1 := hide hsm1
          clear HS HM hg7 hsm1 HSm
          have hmp := H3.out.mp.maps
          rw [fl_len] at hmp
          have HM := hide (hmp.le (k := len') (by omega))
          clear hmp
          go_wp2_with fail
          refine (sameMaps_eq w7 (some ⟨g, 0, none⟩) a' len' cf cap' _ Y HM.out (HY.out.below H3.out.bel) (fun k hk => by show (fl Y len' 4).getD k Mp.nil = Y k; rw [List.getD_eq_getElem?_getD, fl_lo Y hk]; rfl) hl3).mono ?_
          rintro e w8 ⟨rfl, hb8⟩
          have H4 := hide (H3.out.below ((good_mp _ _).star ((good_tb _ _).star good_emp)) hb8)
          clear H3 HM hb8 HY
          go_upto_region 18 with fail
          clear hd hlt
          go_loopw [10] (fun i wr => ∃ q : Nat, q ≤ 4 ∧ i = .int .i64 (q : Int) ∧ wr = w8) (fun i _ => 4 - (intOf i).toNat)
          case atStart => exact ⟨0, by omega, rfl, rfl⟩
          case round =>
            obtain ⟨q, hq, rfl, hwr⟩ := hrel
            subst hwr
            by_cases hlt : q < 4
            · have hd : decide ((q : Int) < 4) = true := by simp; omega
              obtain ⟨c0, c1, c2⟩ := H4.out.mp.cell (k := len' + q) (fl_hi Y hlt)
              have c0' : wr.cell? ⟨g, (len' + q) * 3, none⟩ = some (.int .i64 15) := c0
              have c1' : wr.cell? ⟨g, (len' + q) * 3 + 1, none⟩ = some (.int .i64 (40 + (q : Int))) := c1
              have c2' : wr.cell? ⟨g, (len' + q) * 3 + 2, none⟩ = some (.bool false) := c2
              clear c0 c1 c2
              have hlq : len' + q < len' + 4 := by omega
              have hbq : len' + q ≤ 9223372036854775807 := by omega
              go_wp2
              go_roundw
              case rel => exact ⟨q + 1, by omega, by go_num, trivial⟩
              case measure => simp [intOf]; omega
            · have hd : decide ((q : Int) < 4) = false := by simp; omega
              go_wp2_with fail
              refine (seen_any wr B m1 H4.out.sw.tb).mono ?_
              rintro e w9 ⟨rfl, hb9⟩
              obtain ⟨hn, hb10⟩ := seen_new w9 m1
              have H5 := hide ((H4.out.below ((good_mp _ _).star ((good_tb _ _).star good_emp)) hb9).newSn ((good_mp _ _).star ((good_tb _ _).star good_emp)) hn (Nat.le_refl _) hb10)
              rw [sc_nil] at H5
              clear hn hb10 hb9 H4
              go_upto_region 23 with (refine wpList_store_row rfl 35 _ _ rfl w9.heap.size (sc m1).toArray rfl rfl 35 _ (heap_alloc_last w9 _) (by simp only [List.size_toArray, sc_len]; exact info35) (by simp only [List.size_toArray, sc_len]; rfl) (all_oneCell_toArray (sc_one m1)) ?_)
              generalize (w9.alloc (.cells _ 35)).setRow w9.heap.size (sc m1).toArray = w10 at *
              generalize w9.heap.size = N at *
              clear hd hlt
              obtain ⟨L, hL⟩ : ∃ L, ents m1 16 = L := ⟨_, rfl⟩
              have hLl : L.length ≤ 16 := by rw [← hL]; exact ents_len m1 16
              obtain ⟨m3, hm3, hsm3⟩ := ents_lay HSm1.out (L := ents m1 16) (fun _ => Iff.rfl) (ents_ne m1 16)
              rw [hL] at hm3
              obtain ⟨n, hn⟩ : ∃ n, L.length = n := ⟨_, rfl⟩
              rw [hn] at hm3 hLl
              have HP := hide (And.intro hm3 hsm3)
              clear hm3 hsm3
              have g1 := (good_sn N m1).star ((good_mp (.slice (some ⟨g, 0, none⟩) (len' + 4) cf) (fl Y len' 4)).star ((good_tb B m1).star good_emp))
              have hE := fun (W : World) (h : Tb W B m1) => entries_any W B m1 h
              rw [hL] at hE
              have HEn := hide hE
              clear hE
              go_wp2_with fail
              refine (HEn.out w10 H5.out.sw2.tb).mono ?_
              rintro e w11 ⟨va, rfl, ho, hb⟩
              obtain ⟨xa, ca, he⟩ := ho.len
              rw [hn] at he
              subst he
              have H6 := hide (H5.out.newMp g1 ho hb)
              clear ho hb H5
              have g2 := (good_mp (.slice xa n ca) L).star g1
              go_wp2_with fail
              refine (HEn.out w11 H6.out.sw3.tb).mono ?_
              rintro e w12 ⟨vb, rfl, ho, hb⟩
              obtain ⟨xb, cb, he⟩ := ho.len
              rw [hn] at he
              subst he
              have H7 := hide (H6.out.newMp g2 ho hb)
              clear ho hb H6
              have g3 := (good_mp (.slice xb n cb) L).star g2
              go_wp2_with fail
              refine (HEn.out w12 H7.out.sw4.tb).mono ?_
              rintro e w13 ⟨vc, rfl, ho, hb⟩
              obtain ⟨xc, cc, he⟩ := ho.len
              rw [hn] at he
              subst he
              have H8 := hide (H7.out.newMp g3 ho hb).sw4
              clear ho hb H7 g1 g2 g3
              go_upto_region 30 with fail
              obtain ⟨R4, hR4⟩ : ∃ R, R = star (MpA (.slice xc n cc) L) (star (MpA (.slice xb n cb) L) (star (MpA (.slice xa n ca) L) (star (SnA N m1) (star (TbA B m1) emp)))) := ⟨_, rfl⟩
              rw [← hR4] at H8
              have GR4 : Hid (Good R4) := hide (by rw [hR4]; exact (good_mp _ _).star ((good_mp _ _).star ((good_mp _ _).star ((good_sn _ _).star ((good_tb _ _).star good_emp)))))
              have HR4 := hide hR4
              clear hR4
              go_loopw [16] (fun i wr => ∃ q : Nat, q ≤ len' ∧ i = .int .i64 (q : Int) ∧ Sys w wr (star (MpA (.slice (some ⟨g, 0, none⟩) (len' + 4) cf) (rp ⟨1, 1, true⟩ q (fl Y len' 4))) R4)) (fun i _ => len' - (intOf i).toNat)
              case atStart => exact ⟨0, by omega, rfl, by rw [rp_zero]; exact H8.out⟩
              case round =>
                obtain ⟨p, hp, rfl, hS⟩ := hrel
                clear H8
                have hll : (rp ⟨1, 1, true⟩ p (fl Y len' 4)).length = len' + 4 := by rw [rp_len _ (by rw [fl_len]; omega), fl_len]
                by_cases hlt : p < len'
                · have hd : decide (p < len') = true := by simp; omega
                  obtain ⟨z, hzp⟩ : ∃ z, (rp ⟨1, 1, true⟩ p (fl Y len' 4))[p]? = some z := ⟨_, List.getElem?_eq_getElem (by omega)⟩
                  obtain ⟨c0, c1, c2⟩ := hS.mp.cell hzp
                  obtain ⟨g', cf', he', _, _, hfz⟩ := hS.mp.some_of (by omega)
                  obtain rfl : g = g' := by simp at he'; exact he'.1
                  have f0 := hfz (p * 3)
                  have f1 := hfz (p * 3 + 1)
                  have f2 := hfz (p * 3 + 2)
                  have H9 := hide (hS.setMp (z := ⟨1, 1, true⟩) GR4.out (k := p) (by omega))
                  rw [rp_set _ (by rw [fl_len]; omega)] at H9
                  have e0 : Mp.cells ⟨1, 1, true⟩ = [.int .i64 1, .int .i64 1, .bool true] := rfl
                  rw [e0] at H9
                  clear hS he' hfz hzp e0
                  go_wp2
                  go_roundw
                  case rel => exact ⟨p + 1, by omega, by go_num, H9.out⟩
                  case measure => simp [intOf]; omega
                · have hd : decide (p < len') = false := by simp; omega
                  have HS := hide hS
                  clear hS hll
                  go_upto_region 34 with fail
                  have hpl : p = len' := by omega
                  have H5 := hide HS.out
                  rw [HR4.out] at H5
                  have H6 := hide H5.out.sw3
                  clear HS GR4 HR4 H5 hpl
                  generalize rp ⟨1, 1, true⟩ p (fl Y len' 4) = F1 at *
                  clear hd hlt
                  obtain ⟨R5, hR5⟩ : ∃ R, R = star (MpA (.slice (some ⟨g, 0, none⟩) (len' + 4) cf) F1) (star (MpA (.slice xc n cc) L) (star (MpA (.slice xb n cb) L) (star (SnA N m1) (star (TbA B m1) emp)))) := ⟨_, rfl⟩
                  rw [← hR5] at H6
                  have GR5 : Hid (Good R5) := hide (by rw [hR5]; exact (good_mp _ _).star ((good_mp _ _).star ((good_mp _ _).star ((good_sn _ _).star ((good_tb _ _).star good_emp)))))
                  have HR5 := hide hR5
                  clear hR5
                  go_loopw [17] (fun i wr => ∃ q : Nat, q ≤ n ∧ i = .int .i64 (q : Int) ∧ Sys w wr (star (MpA (.slice xa n ca) (rp ⟨2, 2, false⟩ q L)) R5)) (fun i _ => n - (intOf i).toNat)
                  case atStart => exact ⟨0, by omega, rfl, by rw [rp_zero]; exact H6.out⟩
                  case round =>
                    obtain ⟨u, hu, rfl, hS⟩ := hrel
                    clear H6
                    have hll : (rp ⟨2, 2, false⟩ u L).length = n := by rw [rp_len _ (by omega), hn]
                    by_cases hlt : u < n
                    · have hd : decide (u < n) = true := by simp; omega
                      obtain ⟨z, hzp⟩ : ∃ z, (rp ⟨2, 2, false⟩ u L)[u]? = some z := ⟨_, List.getElem?_eq_getElem (by omega)⟩
                      obtain ⟨ga, ca', he', _, _, hfz⟩ := hS.mp.some_of (by omega)
                      obtain ⟨rfl, rfl⟩ : xa = some ⟨ga, 0, none⟩ ∧ ca = ca' := by simp at he'; exact ⟨he'.1, he'.2.2⟩
                      obtain ⟨c0, c1, c2⟩ := hS.mp.cell hzp
                      have f0 := hfz (u * 3)
                      have f1 := hfz (u * 3 + 1)
                      have f2 := hfz (u * 3 + 2)
                      have H9 := hide (hS.setMp (z := ⟨2, 2, false⟩) GR5.out (k := u) (by omega))
                      rw [rp_set _ (by omega)] at H9
                      have e0 : Mp.cells ⟨2, 2, false⟩ = [.int .i64 2, .int .i64 2, .bool false] := rfl
                      rw [e0] at H9
                      clear hS he' hfz hzp e0
                      go_wp2
                      go_roundw
                      case rel => exact ⟨u + 1, by omega, by go_num, H9.out⟩
                      case measure => simp [intOf]; omega
                    · have hd : decide (u < n) = false := by simp; omega
                      have hun : u = n := by omega
                      rw [hun] at hS hll
                      have H7 := hide hS
                      rw [HR5.out] at H7
                      clear hS GR5 HR5 hun
                      have GT : Hid (Good (star (SnA N m1) (star (TbA B m1) emp))) := hide ((good_sn _ _).star ((good_tb _ _).star good_emp))
                      have HO2 : Hid (wr.ownsRow 0 50 3 (.slice xa n ca) n (mcs (rp ⟨2, 2, false⟩ n L))) := hide (by have := H7.out.mp.out; rw [hll] at this; exact this)
                      go_upto_region 38 with (at_builtin; refine wpList_append_own_at _ rfl _ _ 29 rfl 0 50 i50 (.agg #[.int .i64 0, .int .i64 0, .bool false]) 3 24 Try.underlying29 hi50 hz50 hs50 hb50 rfl (by decide) _ n (mcs (rp ⟨2, 2, false⟩ n L)) rfl (HO2.out.alloc _) ⟨wr.heap.size, 0, none⟩ 1 1 (Mp.cells ⟨3, 3, true⟩) rfl rfl ?ca1 (cells_one _) ?ca3 ?ca4 ?ca5 ?_)
                      case ca1 => exact cells_new wr ⟨3, 3, true⟩
                      case ca3 => unfold maxLen; omega
                      case ca4 => omega
                      case ca5 => omega
                      intro r1 w14 hown hg hnn hloc
                      have H8 := hide (H7.out.appM ((good_mp _ _).star ((good_mp _ _).star ((good_mp _ _).star GT.out))) (z := ⟨3, 3, true⟩) (by rw [hll]; exact hown) hg hloc).sw3
                      clear hown hg hnn hloc H7 HO2 hd hlt
                      have HO3 : Hid (w14.ownsRow 0 50 3 (.slice xb n cb) n (mcs L)) := hide (by have := H8.out.mp.out; rw [hn] at this; exact this)
                      go_upto_region 38 with fail
                      go_upto_region 39 with (at_builtin; refine wpList_append_own_at _ rfl _ _ 29 rfl 0 50 i50 (.agg #[.int .i64 0, .int .i64 0, .bool false]) 3 24 Try.underlying29 hi50 hz50 hs50 hb50 rfl (by decide) _ n (mcs L) rfl (HO3.out.alloc _) ⟨w14.heap.size, 0, none⟩ 1 1 (Mp.cells ⟨4, 4, false⟩) rfl rfl ?cb1 (cells_one _) ?cb3 ?cb4 ?cb5 ?_)
                      case cb1 => exact cells_new w14 ⟨4, 4, false⟩
                      case cb3 => unfold maxLen; omega
                      case cb4 => omega
                      case cb5 => omega
                      intro r2 w15 hown hg hnn hloc
                      have H9 := hide (H8.out.appM ((good_mp _ _).star ((good_mp _ _).star ((good_mp _ _).star GT.out))) (z := ⟨4, 4, false⟩) (by rw [hn]; exact hown) hg hloc).sw3
                      clear hown hg hnn hloc H8 HO3
                      have HO4 : Hid (w15.ownsRow 0 50 3 (.slice xc n cc) n (mcs L)) := hide (by have := H9.out.mp.out; rw [hn] at this; exact this)
                      go_upto_region 39 with fail
                      go_upto_region 40 with (at_builtin; refine wpList_append_own_at _ rfl _ _ 29 rfl 0 50 i50 (.agg #[.int .i64 0, .int .i64 0, .bool false]) 3 24 Try.underlying29 hi50 hz50 hs50 hb50 rfl (by decide) _ n (mcs L) rfl (HO4.out.alloc _) ⟨w15.heap.size, 0, none⟩ 1 1 (Mp.cells ⟨5, 5, false⟩) rfl rfl ?cc1 (cells_one _) ?cc3 ?cc4 ?cc5 ?_)
                      case cc1 => exact cells_new w15 ⟨5, 5, false⟩
                      case cc3 => unfold maxLen; omega
                      case cc4 => omega
                      case cc5 => omega
                      intro r3 w16 hown hg hnn hloc
                      have H10 := hide (H9.out.appM ((good_mp _ _).star ((good_mp _ _).star ((good_mp _ _).star GT.out))) (z := ⟨5, 5, false⟩) (by rw [hn]; exact hown) hg hloc)
                      clear hown hg hnn hloc H9 HO4
                      obtain ⟨g3, c3, he3, hc3, _, _⟩ := H10.out.mp.some_of (by simp)
                      obtain ⟨g2, c2, he2, hc2, _, _⟩ := H10.out.sw.mp.some_of (by simp)
                      obtain ⟨g1, c1, he1, _, _, _⟩ := H10.out.sw2.mp.some_of (by simp)
                      have l3 : (L ++ [(⟨5, 5, false⟩ : Mp)]).length = n + 1 := by simp [hn]
                      have l2 : (L ++ [(⟨4, 4, false⟩ : Mp)]).length = n + 1 := by simp [hn]
                      have l1 : (rp ⟨2, 2, false⟩ n L ++ [(⟨3, 3, true⟩ : Mp)]).length = n + 1 := by simp [hll]
                      rw [l3] at he3 hc3
                      rw [l2] at he2 hc2
                      replace hc3 : n ≤ c3 := by omega
                      replace hc2 : n ≤ c2 := by omega
                      rw [l1] at he1
                      subst he3
                      subst he2
                      subst he1
                      clear l1 l2 l3
                      have HA := hide H10.out.sw2.mp
                      go_upto_region 41 with fail
                      go_loopw [18] (fun i wr => ∃ q : Nat, q ≤ n ∧ i = .int .i64 (q : Int) ∧ wr = w16) (fun i _ => n - (intOf i).toNat)
                      case atStart => exact ⟨0, by omega, rfl, rfl⟩
                      case round =>
                        obtain ⟨q, hq, rfl, hwr⟩ := hrel
                        subst hwr
                        by_cases hlt : q < n
                        · have hd : decide (q < n) = true := by simp; omega
                          obtain ⟨d0, d1, d2⟩ := HA.out.cell (k := q) (rp_get ⟨2, 2, false⟩ hlt _)
                          have hlq : q < n + 1 := by omega
                          go_wp2
                          go_roundw
                          case rel => exact ⟨q + 1, by omega, by go_num, trivial⟩
                          case measure => simp [intOf]; omega
                        · have hd : decide (q < n) = false := by simp; omega
                          go_upto_region 45 with fail
                          have HB := hide H10.out.sw.mp
                          have HCc := hide H10.out.mp
                          have k1 := (HA.out.cell (k := n) (z := ⟨3, 3, true⟩) (by have := List.getElem?_concat_length (l := rp ⟨2, 2, false⟩ n L) (a := (⟨3, 3, true⟩ : Mp)); rwa [hll] at this)).1
                          have k2 := (HB.out.cell (k := n) (z := ⟨4, 4, false⟩) (by have := List.getElem?_concat_length (l := L) (a := (⟨4, 4, false⟩ : Mp)); rwa [hn] at this)).1
                          have k3 := (HCc.out.cell (k := n) (z := ⟨5, 5, false⟩) (by have := List.getElem?_concat_length (l := L) (a := (⟨5, 5, false⟩ : Mp)); rwa [hn] at this)).1
                          have mb := HB.out.maps.le (k := n) (by simp [hn])
                          have mc := HCc.out.maps.le (k := n) (by simp [hn])
                          have eb : lay (fun k => (L ++ [(⟨4, 4, false⟩ : Mp)]).getD k Mp.nil) n = .ok m3 := by
                            rw [← HP.out.1]; exact lay_congr fun k hk => by simp [List.getElem?_append, hn, hk]
                          have ec : lay (fun k => (L ++ [(⟨5, 5, false⟩ : Mp)]).getD k Mp.nil) n = .ok m3 := by
                            rw [← HP.out.1]; exact lay_congr fun k hk => by simp [List.getElem?_append, hn, hk]
                          have lb := fun (W : World) (hW : Below wr.heap.size wr W) (c : Nat) => listed_any W m1 m3 (some ⟨g2, 0, none⟩) n c _ (mb.below hW) (by unfold maxLen; omega) eb
                          have lc := fun (W : World) (hW : Below wr.heap.size wr W) (c : Nat) => listed_any W m1 m3 (some ⟨g3, 0, none⟩) n c _ (mc.below hW) (by unfold maxLen; omega) ec
                          rw [HP.out.2] at lb lc
                          have HLb := hide lb
                          have HLc := hide lc
                          have HN := hide H10.out.sw4.sn
                          have hn1 : n < n + 1 := by omega
                          clear lb lc eb ec mb mc HB HCc HA
                          refine region_below (by kernel_rfl) (by kernel_rfl) ?_
                          go_big_quiet_step (exact fun _ => rfl)
                          go_big_quiet_step (exact fun _ => rfl)
                          refine qb_index rfl _ _ rfl g1 n (n + 1) c1 rfl rfl hn1 _ (by simp only [Act.put, List.setIfInBounds_toArray, List.set]; rfl) ?_
                          go_big_quiet_step (exact fun _ => rfl)
                          refine qb_load3 rfl _ rfl ⟨g1, n * 3, none⟩ rfl 3 k1 _ (by simp only [Act.put, List.setIfInBounds_toArray, List.set]; rfl) ?_
                          go_big_quiet_step (exact fun _ => rfl)
                          go_big_quiet_step (exact fun _ => rfl)
                          go_big_quiet_step (exact fun _ => rfl)
                          go_big_quiet_step (exact fun _ => rfl)
                          refine qb_index rfl _ _ rfl g2 n (n + 1) c2 rfl rfl hn1 _ (by simp only [Act.put, List.setIfInBounds_toArray, List.set]; rfl) ?_
                          go_big_quiet_step (exact fun _ => rfl)
                          refine qb_load3 rfl _ rfl ⟨g2, n * 3, none⟩ rfl 4 k2 _ (by simp only [Act.put, List.setIfInBounds_toArray, List.set]; rfl) ?_
                          go_big_quiet_step (exact fun _ => rfl)
                          go_big_quiet_step (exact fun _ => rfl)
                          go_big_quiet_step (exact fun _ => rfl)
                          go_big_quiet_step (exact fun _ => rfl)
                          go_big_quiet_step (exact fun _ => rfl)
                          refine qb_index rfl _ _ rfl g3 n (n + 1) c3 rfl rfl hn1 _ (by simp only [Act.put, List.setIfInBounds_toArray, List.set]; rfl) ?_
                          go_big_quiet_step (exact fun _ => rfl)
                          refine qb_load3 rfl _ rfl ⟨g3, n * 3, none⟩ rfl 5 k3 _ (by simp only [Act.put, List.setIfInBounds_toArray, List.set]; rfl) ?_
                          go_big_quiet_step (exact fun _ => rfl)
                          go_big_quiet_step (exact fun _ => rfl)
                          go_big_quiet_step (exact fun _ => rfl)
                          refine qb_load35 rfl _ rfl N rfl m1 HN.out _ (by simp only [Act.put, List.setIfInBounds_toArray, List.set]; rfl) ?_
                          go_big_quiet_step (exact fun _ => rfl)
                          go_big_quiet_step (exact fun _ => rfl)
                          refine qb_slice rfl _ _ rfl g2 n (n + 1) c2 rfl rfl hc2 _ (by simp only [Act.put, List.setIfInBounds_toArray, List.set]; rfl) ?_
                          refine qb_listed rfl _ _ rfl _ (.slice (some ⟨g2, 0, none⟩) n c2) rfl rfl (fun W hW => HLb.out W hW c2) _ (by simp only [Act.put, List.setIfInBounds_toArray, List.set]; rfl) ?_
                          go_big_quiet_step (exact fun _ => rfl)
                          go_big_quiet_step (exact fun _ => rfl)
                          go_big_quiet_step (exact fun _ => rfl)
                          refine qb_load35 rfl _ rfl N rfl m1 HN.out _ (by simp only [Act.put, List.setIfInBounds_toArray, List.set]; rfl) ?_
                          go_big_quiet_step (exact fun _ => rfl)
                          go_big_quiet_step (exact fun _ => rfl)
                          refine qb_slice rfl _ _ rfl g3 n (n + 1) c3 rfl rfl hc3 _ (by simp only [Act.put, List.setIfInBounds_toArray, List.set]; rfl) ?_
                          refine qb_listed rfl _ _ rfl _ (.slice (some ⟨g3, 0, none⟩) n c3) rfl rfl (fun W hW => HLc.out W hW c3) _ (by simp only [Act.put, List.setIfInBounds_toArray, List.set]; rfl) ?_
                          go_big_quiet_step (exact fun _ => rfl)
                          go_big_quiet_step (exact fun _ => rfl)
                          refine wpQuiet_nil ?_
                          intro w17 hb17
                          have H11 := hide (H10.out.below ((good_mp _ _).star ((good_mp _ _).star ((good_mp _ _).star ((good_mp _ _).star GT.out)))) hb17)
                          have HN2 := hide H11.out.sw4.sn
                          have HT2 := hide H11.out.sw5.tb
                          have HB2 := hide H11.out.bel
                          clear H11 H10 hb17 k1 k2 k3 HLb HLc HN hd hlt GT
                          have he35 := eq35 m1 m1
                          rw [same_refl] at he35
                          have hi35 : (Try.prog.info? 35).map (·.size) = some (sc m1).length := by rw [sc_len]; exact info35
                          have hu35 := Try.underlying35
                          have hr := HN2.out.all
                          go_upto_region 47 with fail
                          refine wp_region_held_drew (S := fun W => W.rangeAt N 0 (sc m1)) (by kernel_rfl) hr (fun hH1 => ?_)
                          refine tk (i := 0) (v := .pointer (some ⟨B, 0, none⟩)) rfl (by kernel_rfl) (by kernel_rfl) (by kernel_rfl) (fun _ _ _ h => h) (by rfl) (by intro _ _; go_simp) hH1 172 rfl _ (by simp only [Act.put, List.setIfInBounds_toArray, List.set]; rfl) ?_
                          refine tk35 (i := 2) rfl (by kernel_rfl) (by kernel_rfl) (by kernel_rfl) (by intro _ _ _ h; exact h) (by rfl) _ rfl rfl hH1 174 rfl _ (by simp only [Act.put, List.setIfInBounds_toArray, List.set]; rfl) ?_
                          refine wpAnyH_ready (rs := [1]) (by kernel_rfl) (by simp) ?_
                          refine AllReadyH.cons rfl (fun K hK => ?_) AllReadyH.nil
                          go_simp
                          go_wp2_with fail
                          refine (seen_any _ B m1 HT2.out.drew).mono ?_
                          rintro e v5 ⟨rfl, hb5⟩
                          go_wp2
                          refine hK.out _ _ (HN2.out.drew.below hb5).all (fun hH2 => ?_)
                          clear hK K
                          refine tk (i := 3) (v := .bool true) rfl (by kernel_rfl) (by kernel_rfl) (by kernel_rfl) (fun _ _ _ h => h) (by rfl) (by intro _ _; go_simp) hH2 175 rfl _ (by simp only [Act.put, List.setIfInBounds_toArray, List.set]; rfl) ?_
                          refine tk (i := 4) (v := .bool true) rfl (by kernel_rfl) (by kernel_rfl) (by kernel_rfl) (fun _ _ _ h => h) (by rfl) (by intro _ _; go_simp) hH2 176 rfl _ (by simp only [Act.put, List.setIfInBounds_toArray, List.set]; rfl) ?_
                          refine tk35 (i := 5) rfl (by kernel_rfl) (by kernel_rfl) (by kernel_rfl) (by intro _ _ _ h; exact h) (by rfl) _ rfl rfl hH2 177 rfl _ (by simp only [Act.put, List.setIfInBounds_toArray, List.set]; rfl) ?_
                          refine tk (i := 6) (v := .pointer (some ⟨B, 0, none⟩)) rfl (by kernel_rfl) (by kernel_rfl) (by kernel_rfl) (fun _ _ _ h => h) (by rfl) (by intro _ _; go_simp) hH2 178 rfl _ (by simp only [Act.put, List.setIfInBounds_toArray, List.set]; rfl) ?_
                          refine wpAnyH_ready (rs := [7]) (by kernel_rfl) (by simp) ?_
                          refine AllReadyH.cons rfl (fun K hK => ?_) AllReadyH.nil
                          go_simp
                          go_wp2_with fail
                          refine (HEn.out _ (HT2.out.drew.below hb5)).mono ?_
                          rintro e v6 ⟨vr, rfl, ho6, hb6⟩
                          obtain ⟨xr, cr, her⟩ := ho6.len
                          rw [hn] at her
                          subst her
                          go_wp2
                          refine hK.out _ _ ((HN2.out.drew.below hb5).below hb6).all (fun hH3 => ?_)
                          clear hK K
                          refine wpAnyH_ready (rs := [8]) (by kernel_rfl) (by simp) ?_
                          refine AllReadyH.cons rfl (fun K hK => ?_) AllReadyH.nil
                          go_simp
                          go_wp2_with fail
                          refine (listed_any _ m1 m3 xr n cr _ (by have h9 := ho6.maps; rw [hn] at h9; exact h9) (by unfold maxLen; omega) HP.out.1).mono ?_
                          rw [HP.out.2]
                          rintro e v7 ⟨rfl, hb7⟩
                          go_wp2
                          refine hK.out _ _ (((HN2.out.drew.below hb5).below hb6).below hb7).all (fun hH4 => ?_)
                          clear hK K
                          refine tk (i := 9) (v := .bool true) rfl (by kernel_rfl) (by kernel_rfl) (by kernel_rfl) (fun _ _ _ h => h) (by rfl) (by intro _ _; go_simp) hH4 181 rfl _ (by simp only [Act.put, List.setIfInBounds_toArray, List.set]; rfl) ?_
                          refine tk (i := 10) (v := .bool true) rfl (by kernel_rfl) (by kernel_rfl) (by kernel_rfl) (fun _ _ _ h => h) (by rfl) (by intro _ _; go_simp) hH4 4 rfl _ (by simp only [Act.put, List.setIfInBounds_toArray, List.set]; rfl) ?_
                          refine wpAnyH_done (by kernel_rfl) ?_ _
                          have HBx := hide (((HB2.out.drew.trans (hb5.mono HB2.out.size)).trans (hb6.mono (by have h1 := HB2.out.size; have h2 := hb5.size; exact Nat.le_trans h1 h2))).trans (hb7.mono (by have h1 := HB2.out.size; have h2 := hb5.size; have h3 := hb6.size; exact Nat.le_trans (Nat.le_trans h1 h2) h3)))
                          clear hH1 hH2 hH3 hH4 hb5 hb6 hb7 ho6 HN2 HT2 HB2 hr
                          go_wp2
                          go_ret
                          exact ⟨rfl, by first | exact HBx.out | (rw [← hB]; exact HBx.out)⟩
end Go.Proofs.Ytcbfolpeglfbcaa
