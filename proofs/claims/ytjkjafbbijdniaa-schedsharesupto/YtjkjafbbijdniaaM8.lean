import Derived.Test.YtjkjafbbijdniaaM7
namespace Go.Proofs.Ytjkjafbbijdniaa
open Go.RowKit
theorem badO_len (b : Og) : (badO b).R.length ≤ b.R.length + 1 := by
  unfold badO
  dsimp only
  split <;> simp
theorem cost_succ {l : List Og} {k : Nat} {o : Og} (h : l[k]? = some o) : cost (l.take (k + 1)) = cost (l.take k) + (o.R.length + 1) := by
  obtain ⟨h1, h2⟩ := List.getElem?_eq_some_iff.1 h
  rw [List.take_succ_eq_append_getElem h1, h2, cost_app]
  rfl
theorem cost_end {l : List Og} {k : Nat} (h : l.length ≤ k) : cost (l.take (k + 1)) = cost (l.take k) := by
  rw [List.take_of_length_le h, List.take_of_length_le (by omega)]
section
variable (w : World)
set_option maxRecDepth 100000 in
set_option maxHeartbeats 16000000 in
theorem schedHangs_walk (z0 : Int) (v : Value) (os : List Og) (hO : OpR (fun b => b < w.heap.size) w v os) (hF : Fit os) (v2 : Value) (bs : List Og) (hO2 : OpR (fun b => b < w.heap.size) w v2 bs) (hF2 : Fit bs) (hc : cost os + cost bs ≤ 1048576) :
    Calls Try.prog 7 #[.int .i64 z0, v, v2] w fun e w' => e = .returned (.bool true) ∧ Below w.heap.size w w' := by
  obtain ⟨i3, hi, hz3, hs, hb⟩ := info3'
  have HO := hide hO
  have HF := hide hF
  have HO2 := hide hO2
  have HF2 := hide hF2
  obtain ⟨ao, cap, rfl, hcap, hops⟩ := hO
  have HH := hide hops
  obtain ⟨ab, capb, rfl, hcapb, hopsb⟩ := hO2
  have HHb := hide hopsb
  obtain ⟨m, hm⟩ : ∃ m, os.length = m := ⟨_, rfl⟩
  have HLn := hide hm
  obtain ⟨mb, hmb⟩ : ∃ m, bs.length = m := ⟨_, rfl⟩
  have HLb := hide hmb
  have hcl := cost_len os
  have hclb := cost_len bs
  rw [hm] at hcap HO hcl ⊢
  rw [hmb] at hcapb HO2 hclb ⊢
  clear hF hm hops hF2 hmb hopsb
  have HPl : Hid (∀ (z : Nat) (W : World), z ≤ 2 → Calls Try.prog 9 #[.int .i64 (1 + (z : Int))] W fun e w' => ∃ (g : Nat) (X : Nat → Prop), e = .returned (.pointer (some ⟨g, 0, none⟩)) ∧ PlAt w' X g 0 (start (1 + z)) ∧ (∀ b, X b → W.heap.size ≤ b) ∧ Below W.heap.size W w') := hide (fun z W hz => by
    have := plan_any W (1 + z) (by omega)
    rw [show ((1 + z : Nat) : Int) = 1 + (z : Int) by omega] at this
    exact this)
  go_enter Try.func7, Try.ntmps7
  go_wp2_with fail
  refine (rest_any _ z0).mono ?_
  rintro e wx ⟨z, rfl, hz, rfl⟩
  go_wp2_with fail
  refine (HPl.out z _ hz).mono ?_
  rintro e w1 ⟨g1, X1, rfl, h1, h2, h3⟩
  have P1 := hide (And.intro h1 (And.intro h2 h3))
  clear h1 h2 h3
  go_wp2_with fail
  refine (HPl.out z _ hz).mono ?_
  rintro e w2 ⟨g2, X2, rfl, h1, h2, h3⟩
  have P2 := hide (And.intro h1 (And.intro h2 h3))
  clear h1 h2 h3
  go_wp2_with fail
  refine (rest_any _ _).mono ?_
  rintro e wy ⟨y, rfl, hy, rfl⟩
  go_wp2_with fail
  refine (HPl.out y _ hy).mono ?_
  rintro e w3 ⟨g3, X3, rfl, h1, h2, h3⟩
  have HP0 : Hid (P3N wx w3 (fun b => b < wx.heap.size) g1 g2 g3 0 0 0 (start (1 + z)) (start (1 + z)) (start (1 + y))) := hide (P3N.of (P3.make P1.out.2.2 P1.out.1 P1.out.2.1 P2.out.2.2 P2.out.1 P2.out.2.1 h3 h1 h2))
  clear h1 h2 h3 P1 P2 HPl
  go_upto_region 8 with fail
  go_loopw [10] (fun i wr => ∃ (k : Nat) (N : Nat → Prop) (n1 n2 n3 : Nat) (s s3 : Pl), k ≤ m ∧ i = .int .i64 (k : Nat) ∧ Hid (n1 ≤ cost (os.take k) ∧ n2 ≤ cost (os.take k) + 2 * cost (bs.take k) ∧ n3 ≤ cost (os.take k)) ∧ Hid (P3N wx wr N g1 g2 g3 n1 n2 n3 s s s3) ∧ Hid (∀ b, b < wx.heap.size → N b)) (fun i _ => m - (RowKit.intOf i).toNat)
  case atStart => exact ⟨0, _, 0, 0, 0, _, _, by omega, rfl, hide ⟨by omega, by omega, by omega⟩, HP0, hide (fun b hb => hb)⟩
  case round =>
    obtain ⟨k, N, n1, n2, n3, s, s3, hk, rfl, HBd, HP, HN⟩ := hrel
    clear HP0
    by_cases hlt : k < m
    · obtain ⟨o, ho⟩ : ∃ o, os[k]? = some o := ⟨os[k]'(by rw [HLn.out]; exact hlt), List.getElem?_eq_getElem _⟩
      have HOk := hide ho
      have hcs := cost_succ ho
      have hct := cost_take os (k + 1)
      have hcb := cost_take bs (k + 1)
      have hcb0 := cost_take bs k
      have HFo := hide (HF.out o (List.mem_of_getElem? ho))
      obtain ⟨x, u, rfl, hSx, c0, c1, c2, c3, c4, c5⟩ := HH.out k o ho
      have HXx := hide hSx
      have hxk := HP.out.bel.block _ hSx
      have c0 := cell_keep c0 hxk
      have c1 := cell_keep c1 hxk
      have c2 := cell_keep c2 hxk
      have c3 := cell_keep c3 hxk
      have c4 := cell_keep c4 hxk
      have c5 := (c5.keep (w' := wr) (fun b hb => HP.out.bel.block b hb)).mono (fun b hb => HN.out b hb)
      have hki : (k : Int) < m := by omega
      have hkc2 : ¬ cap = k := by omega
      obtain ⟨au, cu, rfl, hcu⟩ := c5.len
      have HC5 := hide c5
      clear c5 hxk hSx ho
      obtain ⟨ok, ot, on, om, oR⟩ := o
      dsimp only at c0 c1 c2 c3 c4 hcu hcs
      have ea : ∀ j, x.add (k * 5 + (j + 1)) = (⟨(x.add (k * 5)).block, (x.add (k * 5)).off + (j + 1), none⟩ : Addr) := fun j => by rw [← Addr.add_add]; simp [Addr.add]
      rw [ea 0] at c1
      rw [ea 1] at c2
      rw [ea 2] at c3
      rw [ea 3] at c4
      clear ea
      obtain ⟨zl, hzl⟩ : ∃ zl, oR.length = zl := ⟨_, rfl⟩
      have HZl := hide hzl
      have hRl : zl + 1 ≤ 1048576 := by omega
      rw [hzl] at hcs hcu c4 HC5
      have HCs := hide (And.intro hcs (And.intro hct (And.intro hcb (And.intro hcb0 hc))))
      clear hzl hcs hct hcb hcb0
      obtain ⟨B, hB⟩ : ∃ B, wr.heap.size = B := ⟨_, rfl⟩
      have hb1 : Below wr.heap.size wr (wr.alloc (.cells #[.int .i64 ok, .int .i64 ot, .int .i64 on, .int .i64 om, .slice au zl cu] 40)) := (Below.refl _ _).alloc (Nat.le_refl _) _
      have HP1 := hide (HP.out.fresh hb1)
      have HR1 := hide ((HC5.out.keep (fun b hb => hb1.block b (HP.out.lt b hb))).mono (fun b hb => (.inl hb : N b ∨ (wr.heap.size ≤ b ∧ b < (wr.alloc (.cells #[.int .i64 ok, .int .i64 ot, .int .i64 on, .int .i64 om, .slice au zl cu] 40)).heap.size))))
      have HRow : Hid ((wr.alloc (.cells #[.int .i64 ok, .int .i64 ot, .int .i64 on, .int .i64 om, .slice au zl cu] 40)).heap[B]? = some (.cells #[.int .i64 ok, .int .i64 ot, .int .i64 on, .int .i64 om, .slice au zl cu] 40 (0, 0))) := hide (by rw [← hB]; exact heap_alloc_last _ _)
      have HNB0 : Hid (N B ∨ (wr.heap.size ≤ B ∧ B < (wr.alloc (.cells #[.int .i64 ok, .int .i64 ot, .int .i64 on, .int .i64 om, .slice au zl cu] 40)).heap.size)) := hide (.inr ⟨by omega, by simp; omega⟩)
      have HB0 : Hid (wx.heap.size ≤ B) := hide (by have := HP.out.bel.size; omega)
      generalize hN1 : (fun b => N b ∨ (wr.heap.size ≤ b ∧ b < (wr.alloc (.cells #[.int .i64 ok, .int .i64 ot, .int .i64 on, .int .i64 om, .slice au zl cu] 40)).heap.size)) = N1 at HP1 HR1
      have HNB : Hid (N1 B) := hide (by rw [← hN1]; exact HNB0.out)
      have HN1 : Hid (∀ b, b < wx.heap.size → N1 b) := hide (fun b hb => by rw [← hN1]; exact .inl (HN.out b hb))
      clear hN1 HC5 HP HN hb1 HNB0
      go_upto_region 11 with fail
      generalize hW : wr.alloc (.cells #[.int .i64 ok, .int .i64 ot, .int .i64 on, .int .i64 om, .slice au zl cu] 40) = W1 at *
      clear hW c0 c1 c2 c3 c4
      clear hB
      have d0 := cell_of_row _ _ 0 _ _ _ HRow.out
      have d1 := cell_of_row _ _ 1 _ _ _ HRow.out
      have d2 := cell_of_row _ _ 2 _ _ _ HRow.out
      have d3 := cell_of_row _ _ 3 _ _ _ HRow.out
      have d4 := cell_of_row _ _ 4 _ _ _ HRow.out
      simp only [List.getElem?_toArray, List.getElem?_cons_zero, List.getElem?_cons_succ] at d0 d1 d2 d3 d4
      go_wp2_with fail
      refine (chosenLit W1 HP1.out ⟨ok, ot, on, om, oR⟩ (.slice au zl cu) HR1.out HFo.out (by have := HBd.out; have := HCs.out; have := HZl.out; show n1 + (oR.length + 1) ≤ _; omega) (by show oR.length + 1 ≤ _; rw [HZl.out]; exact hRl)).mono ?_
      rintro e w2 ⟨r, N2, rfl, hp2, hch2, hN2, hk2, hs2⟩
      have HP2 : Hid (P3N wx w2 N2 g1 g2 g3 (n1 + (zl + 1)) n2 n3 (stepS s ⟨ok, ot, on, om, oR⟩) s s3) := hide (by rw [← HZl.out]; exact hp2)
      have HC2 := hide hch2
      have HR2 := hide ((HR1.out.keep hk2).mono hN2)
      have HRow2 : Hid (w2.heap[B]? = _) := hide ((hk2 B HNB.out).trans HRow.out)
      have HNB2 := hide (hN2 B HNB.out)
      have HN2 : Hid (∀ b, b < wx.heap.size → N2 b) := hide (fun b hb => hN2 b (HN1.out b hb))
      have hBw := HP1.out.lt B HNB.out
      clear hp2 hch2 hN2 hk2 hs2 HP1 HR1 HRow HNB HN1 d0 d1 d2 d3 d4
      have d4 := cell_of_row _ _ 4 _ _ _ HRow2.out
      simp only [List.getElem?_toArray, List.getElem?_cons_zero, List.getElem?_cons_succ] at d4
      go_wp2_with fail
      refine (turned_any w2 N2 _ oR HR2.out HP2.out.lt (by rw [HZl.out]; omega)).mono ?_
      rintro e w3 ⟨r1, rfl, ho3, hb3⟩
      have HP3 := hide (HP2.out.fresh hb3)
      generalize hN3 : (fun b => N2 b ∨ (w2.heap.size ≤ b ∧ b < w3.heap.size)) = N3 at HP3
      have HS3 : Hid (∀ b, N2 b → N3 b) := hide (fun b hb => by rw [← hN3]; exact .inl hb)
      have HR3 : Hid (Rd (fun b => N3 b ∧ w2.heap.size ≤ b) w3 r1 oR.reverse) := hide (by rw [← hN3]; exact ho3.rd.mono (fun b hb => ⟨.inr ⟨hb.1, hb.2.1⟩, hb.1⟩))
      have HC3 := hide (HC2.out.keep (w' := w3) (fun b hb => hb3.block b (HP2.out.lt b hb.1)))
      have HRow3 : Hid (w3.heap[B]? = _) := hide ((hb3.block B (HP2.out.lt B HNB2.out)).trans HRow2.out)
      obtain ⟨av, cv, rfl⟩ : ∃ av cv, r1 = .slice av zl cv := by
        obtain ⟨a, c, h, _⟩ := HR3.out.len
        exact ⟨a, c, by rw [h, List.length_reverse, HZl.out]⟩
      clear hN3 ho3 hb3 d4 HR2 HC2 HRow2
      have d4 := cell_of_row _ _ 4 _ _ _ HRow3.out
      have f4 := frozen_of_row w3 B 4 _ _ HRow3.out
      have hst := heap_setCell_same w3 B 4 _ _ (.slice av zl cv) HRow3.out
      simp only [List.getElem?_toArray, List.getElem?_cons_zero, List.getElem?_cons_succ] at d4
      have HRow4 : Hid ((w3.setCell ⟨B, 4, none⟩ (.slice av zl cv)).heap[B]? = some (.cells #[.int .i64 ok, .int .i64 ot, .int .i64 on, .int .i64 om, .slice av zl cv] 40 (0, 0))) := hide (by simpa using hst)
      have HP4 := hide (HP3.out.set (o := 4) (HS3.out B HNB2.out) HB0.out (.slice av zl cv))
      have hoth : ∀ b, b ≠ B → (w3.setCell ⟨B, 4, none⟩ (.slice av zl cv)).heap[b]? = w3.heap[b]? := fun b hb => heap_setCell_other w3 ⟨B, 4, none⟩ _ _ hb
      have hBl := HP2.out.lt B HNB2.out
      have HC4 := hide ((HC3.out.keep (w' := w3.setCell ⟨B, 4, none⟩ (.slice av zl cv)) (fun b hb => hoth b (by have := hb.2; have := hBw; omega))).mono (fun b hb => HS3.out b hb.1))
      have HR4 := hide ((HR3.out.keep (w' := w3.setCell ⟨B, 4, none⟩ (.slice av zl cv)) (fun b hb => hoth b (by have := hb.2; omega))).mono (fun b hb => hb.1))
      have HNB4 := hide (HS3.out B HNB2.out)
      have HN4 : Hid (∀ b, b < wx.heap.size → N3 b) := hide (fun b hb => HS3.out b (HN2.out b hb))
      clear hst hoth HP3 HP2 HC3 HR3 HRow3 HS3 HN2 HNB2 hBl
      have e0 := cell_of_row _ _ 0 _ _ _ HRow4.out
      have e1 := cell_of_row _ _ 1 _ _ _ HRow4.out
      have e2 := cell_of_row _ _ 2 _ _ _ HRow4.out
      have e3 := cell_of_row _ _ 3 _ _ _ HRow4.out
      have e4 := cell_of_row _ _ 4 _ _ _ HRow4.out
      simp only [List.getElem?_toArray, List.getElem?_cons_zero, List.getElem?_cons_succ] at e0 e1 e2 e3 e4
      go_upto_region 15 with fail
      generalize w3.setCell ⟨B, 4, none⟩ (.slice av zl cv) = W4 at *
      go_wp2_with fail
      refine (chosenLit W4 HP4.out.rot (revO ⟨ok, ot, on, om, oR⟩) (.slice av zl cv) HR4.out ⟨HFo.out.1, fun z hz => HFo.out.2 z (List.mem_reverse.1 hz)⟩ (by have := HBd.out; have := HCs.out; have h9 := HZl.out; show n2 + (oR.reverse.length + 1) ≤ _; rw [List.length_reverse]; omega) (by show oR.reverse.length + 1 ≤ _; rw [List.length_reverse, HZl.out]; exact hRl)).mono ?_
      rintro e w5 ⟨r2, N5, rfl, hp5, hch5, hN5, hk5, hs5⟩
      obtain ⟨hll, hel⟩ := oneC_rev s false ⟨ok, ot, on, om, oR⟩
      have hl1 := oneC_len s false ⟨ok, ot, on, om, oR⟩
      have HSr := hide (stepS_rev s ⟨ok, ot, on, om, oR⟩)
      have HC5 := hide ((HC4.out.keep hk5).mono hN5)
      have HD5 := hide (hch5.mono (fun b hb => hb.1))
      have HP5a : Hid (P3N wx w5 N5 g2 g3 g1 (n2 + (zl + 1)) n3 (n1 + (zl + 1)) (stepS s ⟨ok, ot, on, om, oR⟩) s3 (stepS s ⟨ok, ot, on, om, oR⟩)) := hide (by
        have h9 := hp5
        rw [HSr.out] at h9
        rw [← HZl.out] at h9 ⊢
        rw [show n2 + (oR.length + 1) = n2 + ((revO ⟨ok, ot, on, om, oR⟩).R.length + 1) by rw [show (revO ⟨ok, ot, on, om, oR⟩).R.length = oR.length from List.length_reverse]]
        exact h9)
      have HN5 : Hid (∀ b, b < wx.heap.size → N5 b) := hide (fun b hb => hN5 b (HN4.out b hb))
      obtain ⟨s', hs'⟩ : ∃ s', stepS s ⟨ok, ot, on, om, oR⟩ = s' := ⟨_, rfl⟩
      rw [hs'] at HP5a
      obtain ⟨l, hl⟩ : ∃ l, oneC s false ⟨ok, ot, on, om, oR⟩ = l := ⟨_, rfl⟩
      obtain ⟨l2, hl2⟩ : ∃ l, oneC s false (revO ⟨ok, ot, on, om, oR⟩) = l := ⟨_, rfl⟩
      rw [hl] at HC5 hll hel hl1
      rw [hl2] at HD5 hll hel
      clear hp5 hch5 hN5 hk5 hs5 HP4 HC4 HR4 HRow4 HNB4 HN4 HSr hl hl2 hs' d4 f4 e0 e1 e2 e3 e4
      obtain ⟨ml, hml⟩ : ∃ ml, l.length = ml := ⟨_, rfl⟩
      obtain ⟨ar, cr, hr, hcr, _⟩ := HC5.out
      subst hr
      obtain ⟨ar2, cr2, hr2, hcr2, _⟩ := HD5.out
      subst hr2
      rw [hll] at hcr2 HD5 ⊢
      rw [hml] at hcr hcr2 hl1 HC5 HD5 ⊢
      go_upto_region 16 with fail
      go_cut [92] from 68 to 92 (fun v wx => v = .bool false ∧ ∃ nd, wx = w5.drewN nd)
      case first =>
        rcases (show ml = 0 ∨ ml = 1 by omega) with h01 | h01
        · subst h01
          clear hll hel hml
          go_quiet (fail)
          go_wp2_with fail
          go_meet
          case rel => exact ⟨rfl, _, rfl⟩
        · subst h01
          obtain ⟨c, hc9⟩ : ∃ c, l[0]? = some c := ⟨l[0]'(by rw [hml]; omega), List.getElem?_eq_getElem _⟩
          obtain ⟨c', hc9', hcc⟩ := hel c hc9
          obtain ⟨x', au1, cu1, hx', _, _, c1, _, _⟩ := HC5.out.at hc9
          obtain ⟨x'', au2, cu2, hx'', _, _, c2, _, _⟩ := HD5.out.at hc9'
          subst hx'
          subst hx''
          rw [hcc] at c2
          simp only [Nat.zero_mul, Addr.add, if_true] at c1 c2
          clear hll hel hml hc9 hc9' hcc
          go_quiet (fail)
          go_wp2_with fail
          go_meet
          case rel => exact ⟨rfl, _, rfl⟩
      case rest =>
        obtain ⟨hv, nd, hw⟩ := hcut
        subst hv
        subst hw
        have HP5 := hide ((HP5a.out.fresh (drewN_below _ _ nd)).sub (N' := N5) (fun b h => .inl h))
        clear HP5a HC5 HD5 hel hml hll
        go_wp2_with fail
        refine (toldN _ HP5.out (by have := HBd.out; have := HCs.out; omega)).mono ?_
        rintro e w7 ⟨tv, ks, N7, rfl, hp7, ht7, hks7, hkl7, hN7, hk7, hs7⟩
        have HP7 := hide hp7
        have HT7 := hide (ht7.mono (S' := N7) (fun b hb => hb))
        have HKs := hide hks7
        have HN7 : Hid (∀ b, b < wx.heap.size → N7 b) := hide (fun b hb => hN7 b (HN5.out b hb))
        have HKl : Hid (ks.length ≤ 4194304) := hide (by have := HBd.out; have := HCs.out; omega)
        clear hp7 ht7 hks7 hkl7 hN7 hk7 hs7 HP5 HN5
        rcases Nat.lt_or_ge k mb with hkb | hkb
        · obtain ⟨b, hb9⟩ : ∃ b, bs[k]? = some b := ⟨bs[k]'(by rw [HLb.out]; exact hkb), List.getElem?_eq_getElem _⟩
          have hcsb := cost_succ hb9
          have HFb := hide (HF2.out b (List.mem_of_getElem? hb9))
          obtain ⟨x2, ub, rfl, hSx, c0, c1, c2, c3, c4, c5⟩ := HHb.out k b hb9
          have hxk := HP7.out.bel.block _ hSx
          have c0 := cell_keep c0 hxk
          have c1 := cell_keep c1 hxk
          have c2 := cell_keep c2 hxk
          have c3 := cell_keep c3 hxk
          have c4 := cell_keep c4 hxk
          have c5 := (c5.keep (w' := w7) (fun b hb => HP7.out.bel.block b hb)).mono (fun b hb => HN7.out b hb)
          have hkbi : (k : Int) < mb := by omega
          have hkbc : ¬ capb = k := by omega
          obtain ⟨a2, c2b, rfl, hcu2⟩ := c5.len
          have HC5 := hide c5
          clear c5 hxk hSx hb9
          obtain ⟨bk, bt, bn, bm, bR⟩ := b
          dsimp only at c0 c1 c2 c3 c4 hcu2 hcsb
          have ea : ∀ j, x2.add (k * 5 + (j + 1)) = (⟨(x2.add (k * 5)).block, (x2.add (k * 5)).off + (j + 1), none⟩ : Addr) := fun j => by rw [← Addr.add_add]; simp [Addr.add]
          rw [ea 0] at c1
          rw [ea 1] at c2
          rw [ea 2] at c3
          rw [ea 3] at c4
          clear ea
          obtain ⟨bl, hbl⟩ : ∃ bl, bR.length = bl := ⟨_, rfl⟩
          have HBl := hide hbl
          rw [hbl] at hcsb hcu2 c4 HC5
          have HCb := hide hcsb
          have hblb : bl ≤ 1048574 := by have := HCs.out; omega
          clear hbl hcsb
          obtain ⟨B2, hB2⟩ : ∃ B, w7.heap.size = B := ⟨_, rfl⟩
          have hb1 : Below w7.heap.size w7 (w7.alloc (.cells #[.int .i64 bk, .int .i64 bt, .int .i64 bn, .int .i64 bm, .slice a2 bl c2b] 40)) := (Below.refl _ _).alloc (Nat.le_refl _) _
          have HP8 := hide (HP7.out.fresh hb1)
          have HR8 := hide (HC5.out.keep (fun b hb => hb1.block b (HP7.out.lt b hb)))
          have HT8 := hide (HT7.out.keep (fun b hb => hb1.block b (HP7.out.lt b hb)))
          have HRow8 : Hid ((w7.alloc (.cells #[.int .i64 bk, .int .i64 bt, .int .i64 bn, .int .i64 bm, .slice a2 bl c2b] 40)).heap[B2]? = some (.cells #[.int .i64 bk, .int .i64 bt, .int .i64 bn, .int .i64 bm, .slice a2 bl c2b] 40 (0, 0))) := hide (by rw [← hB2]; exact heap_alloc_last _ _)
          have HNBz : Hid (N7 B2 ∨ (w7.heap.size ≤ B2 ∧ B2 < (w7.alloc (.cells #[.int .i64 bk, .int .i64 bt, .int .i64 bn, .int .i64 bm, .slice a2 bl c2b] 40)).heap.size)) := hide (.inr ⟨by omega, by simp; omega⟩)
          have HB28 : Hid (wx.heap.size ≤ B2) := hide (by have := HP7.out.bel.size; omega)
          have HL7 : Hid (∀ b, N7 b → b ≠ B2) := hide (fun b hb => by have := HP7.out.lt b hb; omega)
          generalize hN8 : (fun b => N7 b ∨ (w7.heap.size ≤ b ∧ b < (w7.alloc (.cells #[.int .i64 bk, .int .i64 bt, .int .i64 bn, .int .i64 bm, .slice a2 bl c2b] 40)).heap.size)) = N8 at HP8
          have HNB8 : Hid (N8 B2) := hide (by rw [← hN8]; exact HNBz.out)
          have HS8 : Hid (∀ b, N7 b → N8 b) := hide (fun b hb => by rw [← hN8]; exact .inl hb)
          have HN8 : Hid (∀ b, b < wx.heap.size → N8 b) := hide (fun b hb => HS8.out b (HN7.out b hb))
          clear hN8 HC5 HP7 HN7 hb1 HNBz HT7
          go_upto_region 21 with fail
          generalize hW : w7.alloc (.cells #[.int .i64 bk, .int .i64 bt, .int .i64 bn, .int .i64 bm, .slice a2 bl c2b] 40) = W8 at *
          clear hW c0 c1 c2 c3 c4 hB2
          have d0 := cell_of_row _ _ 0 _ _ _ HRow8.out
          have d2 := cell_of_row _ _ 2 _ _ _ HRow8.out
          have d3 := cell_of_row _ _ 3 _ _ _ HRow8.out
          have d4 := cell_of_row _ _ 4 _ _ _ HRow8.out
          simp only [List.getElem?_toArray, List.getElem?_cons_zero, List.getElem?_cons_succ] at d0 d2 d3 d4
          by_cases hb2 : bk = 2
          · subst hb2
            by_cases q1 : 1 ≤ bn
            · by_cases q2 : 1 ≤ bm
              · by_cases q3 : bm ≤ 8
                · have hw9 : IntKind.i64.wrap (9 + bm) = 9 + bm := wi _ (by omega) (by omega)
                  have f3 := frozen_of_row W8 B2 3 _ _ HRow8.out
                  have hst := heap_setCell_same W8 B2 3 _ _ (.int .i64 (9 + bm)) HRow8.out
                  have HRow9 : Hid ((W8.setCell ⟨B2, 3, none⟩ (.int .i64 (9 + bm))).heap[B2]? = some (.cells #[.int .i64 2, .int .i64 bt, .int .i64 bn, .int .i64 (9 + bm), .slice a2 bl c2b] 40 (0, 0))) := hide (by simpa using hst)
                  have hoth : ∀ b, b ≠ B2 → (W8.setCell ⟨B2, 3, none⟩ (.int .i64 (9 + bm))).heap[b]? = W8.heap[b]? := fun b hb => heap_setCell_other W8 ⟨B2, 3, none⟩ _ _ hb
                  have HP9 := hide (HP8.out.set (o := 3) HNB8.out HB28.out (.int .i64 (9 + bm)))
                  have HR9 := hide ((HR8.out.keep (fun b hb => hoth b (HL7.out b hb))).mono HS8.out)
                  have HT9 := hide ((HT8.out.keep (fun b hb => hoth b (HL7.out b hb))).mono HS8.out)
                  have HN9 := HN8
                  have HFb9 := HFb
                  have HRl9 : Hid (bR.length ≤ bl + 1) := hide (by rw [HBl.out]; omega)
                  have HBad : Hid (stepS s' ⟨2, bt, bn, 9 + bm, bR⟩ = s') := hide (by
                    have h9 := stepS_bad s' ⟨2, bt, bn, bm, bR⟩
                    unfold badO at h9
                    dsimp only at h9
                    rw [if_pos ⟨rfl, q1, q2, q3⟩, if_neg (fun h => by have := h.1; omega)] at h9
                    exact h9)
                  have e0 := cell_of_row _ _ 0 _ _ _ HRow9.out
                  simp only [List.getElem?_toArray, List.getElem?_cons_zero] at e0
                  clear HP8 HR8 HT8 HN8 HRow8 HFb hst hoth
                  go_upto_region 25 with fail
                  generalize W8.setCell ⟨B2, 3, none⟩ (.int .i64 (9 + bm)) = W9 at *
                  clear d0 d2 d3 d4 e0 f3
                  have d0 := cell_of_row _ _ 0 _ _ _ HRow9.out
                  have d1 := cell_of_row _ _ 1 _ _ _ HRow9.out
                  have d2 := cell_of_row _ _ 2 _ _ _ HRow9.out
                  have d3 := cell_of_row _ _ 3 _ _ _ HRow9.out
                  have d4 := cell_of_row _ _ 4 _ _ _ HRow9.out
                  simp only [List.getElem?_toArray, List.getElem?_cons_zero, List.getElem?_cons_succ] at d0 d1 d2 d3 d4
                  go_wp2_with fail
                  refine (chosenLit _ HP9.out ⟨2, bt, bn, 9 + bm, bR⟩ _ HR9.out HFb9.out (by have := HBd.out; have := HCs.out; have h9 := HRl9.out; have h8 := HCb.out; show n2 + (zl + 1) + (List.length (bR) + 1) ≤ _; omega) (by have := HCs.out; have h9 := HRl9.out; have h8 := HCb.out; show List.length (bR) + 1 ≤ _; omega)).mono ?_
                  rintro e w10 ⟨r3, N10, rfl, hp10, _, hN10, hk10, _⟩
                  rw [HBad.out] at hp10
                  have HP10 := hide hp10
                  have HT10 := hide ((HT9.out.keep hk10).mono hN10)
                  have HN10 : Hid (∀ b, b < wx.heap.size → N10 b) := hide (fun b hb => hN10 b (HN9.out b hb))
                  clear hp10 hN10 hk10 HP9 HR9 HT9 HN9 HRow9 d0 d1 d2 d3 d4
                  go_wp2_with fail
                  refine (toldN _ HP10.out (by have := HBd.out; have := HCs.out; have h9 := HRl9.out; have h8 := HCb.out; show n2 + (zl + 1) + (List.length (bR) + 1) ≤ _; omega)).mono ?_
                  rintro e w11 ⟨tv2, ks2, N11, rfl, hp11, ht11, hks2, _, hN11, hk11, _⟩
                  rw [ks_eq hks2 HKs.out] at ht11
                  have HP11 := hide hp11
                  have HT11 := hide ((HT10.out.keep hk11).mono hN11)
                  have HU11 := hide (ht11.mono (S' := N11) (fun b hb => hb))
                  have HN12 : Hid (∀ b, b < wx.heap.size → N11 b) := hide (fun b hb => hN11 b (HN10.out b hb))
                  clear hp11 ht11 hks2 hN11 hk11 HP10 HT10 HN10
                  go_wp2_with fail
                  refine (sameShares_any w11 N11 _ _ _ HT11.out HU11.out (by rw [told_len]; exact HKl.out)).mono ?_
                  rintro e w12 ⟨rfl, hd12⟩
                  have HP12 := hide ((HP11.out.fresh (hd12.below _)).sub (N' := N11) (fun b h => .inl h))
                  have HQ : Hid (n2 + (zl + 1) + (List.length (bR) + 1) ≤ cost (os.take (k + 1)) + 2 * cost (bs.take (k + 1))) := hide (by have := HBd.out; have := HCs.out; have h9 := HRl9.out; have h8 := HCb.out; omega)
                  clear hd12 HP11 HT11 HU11 HBad HFb9 HRl9
                  obtain ⟨xc, uc, hxc, hSx, c0, c1, c2, c3, c4, c5⟩ := HH.out k _ HOk.out
                  cases hxc
                  have hxk := HP12.out.bel.block _ hSx
                  have c0 := cell_keep c0 hxk
                  have c1 := cell_keep c1 hxk
                  have c2 := cell_keep c2 hxk
                  have c3 := cell_keep c3 hxk
                  have c4 := cell_keep c4 hxk
                  have c5 := (c5.keep (fun b hb => HP12.out.bel.block b hb)).mono (fun b hb => HN12.out b hb)
                  dsimp only at c0 c1 c2 c3 c4 c5
                  have ea : ∀ j, x.add (k * 5 + (j + 1)) = (⟨(x.add (k * 5)).block, (x.add (k * 5)).off + (j + 1), none⟩ : Addr) := fun j => by rw [← Addr.add_add]; simp [Addr.add]
                  rw [ea 0] at c1
                  rw [ea 1] at c2
                  rw [ea 2] at c3
                  rw [ea 3] at c4
                  have HC5 := hide c5
                  obtain ⟨auc, cuc, rfl, _⟩ := c5.len
                  clear c5 hxk hSx ea
                  go_wp2_with fail
                  refine (chosenLit _ HP12.out.rot ⟨ok, ot, on, om, oR⟩ _ HC5.out HFo.out (by have := HBd.out; have := HCs.out; have := HZl.out; show n3 + (oR.length + 1) ≤ _; omega) (by show oR.length + 1 ≤ _; rw [HZl.out]; exact hRl)).mono ?_
                  rintro e w13 ⟨r4, N13, rfl, hp13, _, hN13, _, _⟩
                  have HP13 := hide hp13.rot
                  have HN13 : Hid (∀ b, b < wx.heap.size → N13 b) := hide (fun b hb => hN13 b (HN12.out b hb))
                  clear hp13 hN13 HP12 HN12 HC5 c0 c1 c2 c3 c4
                  go_wp2
                  go_roundw
                  case rel => exact ⟨k + 1, N13, _, _, _, _, _, by omega, by go_num, hide ⟨by have := HBd.out; have := HCs.out; omega, HQ.out, by have := HBd.out; have := HCs.out; have := HZl.out; show n3 + (oR.length + 1) ≤ _; omega⟩, HP13, HN13⟩
                  case measure => simp [RowKit.intOf]; omega
                · have HBad : Hid (stepS s' ⟨2, bt, bn, bm, bR⟩ = s') := hide (by
                    have h9 := stepS_bad s' ⟨2, bt, bn, bm, bR⟩
                    unfold badO at h9
                    dsimp only at h9
                    rw [if_neg (fun h => q3 h.2.2.2), if_neg (fun h => by have := h.1; omega)] at h9
                    exact h9)
                  have HP9 := HP8
                  have HR9 := hide (HR8.out.mono HS8.out)
                  have HT9 := hide (HT8.out.mono HS8.out)
                  have HN9 := HN8
                  have HRow9 := HRow8
                  have HFb9 := HFb
                  have HRl9 : Hid (bR.length ≤ bl + 1) := hide (by rw [HBl.out]; omega)
                  clear HP8 HR8 HT8 HN8 HRow8 HFb
                  go_upto_region 25 with fail
                  clear d0 d2 d3 d4
                  have d0 := cell_of_row _ _ 0 _ _ _ HRow9.out
                  have d1 := cell_of_row _ _ 1 _ _ _ HRow9.out
                  have d2 := cell_of_row _ _ 2 _ _ _ HRow9.out
                  have d3 := cell_of_row _ _ 3 _ _ _ HRow9.out
                  have d4 := cell_of_row _ _ 4 _ _ _ HRow9.out
                  simp only [List.getElem?_toArray, List.getElem?_cons_zero, List.getElem?_cons_succ] at d0 d1 d2 d3 d4
                  go_wp2_with fail
                  refine (chosenLit _ HP9.out ⟨2, bt, bn, bm, bR⟩ _ HR9.out HFb9.out (by have := HBd.out; have := HCs.out; have h9 := HRl9.out; have h8 := HCb.out; show n2 + (zl + 1) + (List.length (bR) + 1) ≤ _; omega) (by have := HCs.out; have h9 := HRl9.out; have h8 := HCb.out; show List.length (bR) + 1 ≤ _; omega)).mono ?_
                  rintro e w10 ⟨r3, N10, rfl, hp10, _, hN10, hk10, _⟩
                  rw [HBad.out] at hp10
                  have HP10 := hide hp10
                  have HT10 := hide ((HT9.out.keep hk10).mono hN10)
                  have HN10 : Hid (∀ b, b < wx.heap.size → N10 b) := hide (fun b hb => hN10 b (HN9.out b hb))
                  clear hp10 hN10 hk10 HP9 HR9 HT9 HN9 HRow9 d0 d1 d2 d3 d4
                  go_wp2_with fail
                  refine (toldN _ HP10.out (by have := HBd.out; have := HCs.out; have h9 := HRl9.out; have h8 := HCb.out; show n2 + (zl + 1) + (List.length (bR) + 1) ≤ _; omega)).mono ?_
                  rintro e w11 ⟨tv2, ks2, N11, rfl, hp11, ht11, hks2, _, hN11, hk11, _⟩
                  rw [ks_eq hks2 HKs.out] at ht11
                  have HP11 := hide hp11
                  have HT11 := hide ((HT10.out.keep hk11).mono hN11)
                  have HU11 := hide (ht11.mono (S' := N11) (fun b hb => hb))
                  have HN12 : Hid (∀ b, b < wx.heap.size → N11 b) := hide (fun b hb => hN11 b (HN10.out b hb))
                  clear hp11 ht11 hks2 hN11 hk11 HP10 HT10 HN10
                  go_wp2_with fail
                  refine (sameShares_any w11 N11 _ _ _ HT11.out HU11.out (by rw [told_len]; exact HKl.out)).mono ?_
                  rintro e w12 ⟨rfl, hd12⟩
                  have HP12 := hide ((HP11.out.fresh (hd12.below _)).sub (N' := N11) (fun b h => .inl h))
                  have HQ : Hid (n2 + (zl + 1) + (List.length (bR) + 1) ≤ cost (os.take (k + 1)) + 2 * cost (bs.take (k + 1))) := hide (by have := HBd.out; have := HCs.out; have h9 := HRl9.out; have h8 := HCb.out; omega)
                  clear hd12 HP11 HT11 HU11 HBad HFb9 HRl9
                  obtain ⟨xc, uc, hxc, hSx, c0, c1, c2, c3, c4, c5⟩ := HH.out k _ HOk.out
                  cases hxc
                  have hxk := HP12.out.bel.block _ hSx
                  have c0 := cell_keep c0 hxk
                  have c1 := cell_keep c1 hxk
                  have c2 := cell_keep c2 hxk
                  have c3 := cell_keep c3 hxk
                  have c4 := cell_keep c4 hxk
                  have c5 := (c5.keep (fun b hb => HP12.out.bel.block b hb)).mono (fun b hb => HN12.out b hb)
                  dsimp only at c0 c1 c2 c3 c4 c5
                  have ea : ∀ j, x.add (k * 5 + (j + 1)) = (⟨(x.add (k * 5)).block, (x.add (k * 5)).off + (j + 1), none⟩ : Addr) := fun j => by rw [← Addr.add_add]; simp [Addr.add]
                  rw [ea 0] at c1
                  rw [ea 1] at c2
                  rw [ea 2] at c3
                  rw [ea 3] at c4
                  have HC5 := hide c5
                  obtain ⟨auc, cuc, rfl, _⟩ := c5.len
                  clear c5 hxk hSx ea
                  go_wp2_with fail
                  refine (chosenLit _ HP12.out.rot ⟨ok, ot, on, om, oR⟩ _ HC5.out HFo.out (by have := HBd.out; have := HCs.out; have := HZl.out; show n3 + (oR.length + 1) ≤ _; omega) (by show oR.length + 1 ≤ _; rw [HZl.out]; exact hRl)).mono ?_
                  rintro e w13 ⟨r4, N13, rfl, hp13, _, hN13, _, _⟩
                  have HP13 := hide hp13.rot
                  have HN13 : Hid (∀ b, b < wx.heap.size → N13 b) := hide (fun b hb => hN13 b (HN12.out b hb))
                  clear hp13 hN13 HP12 HN12 HC5 c0 c1 c2 c3 c4
                  go_wp2
                  go_roundw
                  case rel => exact ⟨k + 1, N13, _, _, _, _, _, by omega, by go_num, hide ⟨by have := HBd.out; have := HCs.out; omega, HQ.out, by have := HBd.out; have := HCs.out; have := HZl.out; show n3 + (oR.length + 1) ≤ _; omega⟩, HP13, HN13⟩
                  case measure => simp [RowKit.intOf]; omega
              · have HBad : Hid (stepS s' ⟨2, bt, bn, bm, bR⟩ = s') := hide (by
                  have h9 := stepS_bad s' ⟨2, bt, bn, bm, bR⟩
                  unfold badO at h9
                  dsimp only at h9
                  rw [if_neg (fun h => q2 h.2.2.1), if_neg (fun h => by have := h.1; omega)] at h9
                  exact h9)
                have HP9 := HP8
                have HR9 := hide (HR8.out.mono HS8.out)
                have HT9 := hide (HT8.out.mono HS8.out)
                have HN9 := HN8
                have HRow9 := HRow8
                have HFb9 := HFb
                have HRl9 : Hid (bR.length ≤ bl + 1) := hide (by rw [HBl.out]; omega)
                clear HP8 HR8 HT8 HN8 HRow8 HFb
                go_upto_region 25 with fail
                clear d0 d2 d3 d4
                have d0 := cell_of_row _ _ 0 _ _ _ HRow9.out
                have d1 := cell_of_row _ _ 1 _ _ _ HRow9.out
                have d2 := cell_of_row _ _ 2 _ _ _ HRow9.out
                have d3 := cell_of_row _ _ 3 _ _ _ HRow9.out
                have d4 := cell_of_row _ _ 4 _ _ _ HRow9.out
                simp only [List.getElem?_toArray, List.getElem?_cons_zero, List.getElem?_cons_succ] at d0 d1 d2 d3 d4
                go_wp2_with fail
                refine (chosenLit _ HP9.out ⟨2, bt, bn, bm, bR⟩ _ HR9.out HFb9.out (by have := HBd.out; have := HCs.out; have h9 := HRl9.out; have h8 := HCb.out; show n2 + (zl + 1) + (List.length (bR) + 1) ≤ _; omega) (by have := HCs.out; have h9 := HRl9.out; have h8 := HCb.out; show List.length (bR) + 1 ≤ _; omega)).mono ?_
                rintro e w10 ⟨r3, N10, rfl, hp10, _, hN10, hk10, _⟩
                rw [HBad.out] at hp10
                have HP10 := hide hp10
                have HT10 := hide ((HT9.out.keep hk10).mono hN10)
                have HN10 : Hid (∀ b, b < wx.heap.size → N10 b) := hide (fun b hb => hN10 b (HN9.out b hb))
                clear hp10 hN10 hk10 HP9 HR9 HT9 HN9 HRow9 d0 d1 d2 d3 d4
                go_wp2_with fail
                refine (toldN _ HP10.out (by have := HBd.out; have := HCs.out; have h9 := HRl9.out; have h8 := HCb.out; show n2 + (zl + 1) + (List.length (bR) + 1) ≤ _; omega)).mono ?_
                rintro e w11 ⟨tv2, ks2, N11, rfl, hp11, ht11, hks2, _, hN11, hk11, _⟩
                rw [ks_eq hks2 HKs.out] at ht11
                have HP11 := hide hp11
                have HT11 := hide ((HT10.out.keep hk11).mono hN11)
                have HU11 := hide (ht11.mono (S' := N11) (fun b hb => hb))
                have HN12 : Hid (∀ b, b < wx.heap.size → N11 b) := hide (fun b hb => hN11 b (HN10.out b hb))
                clear hp11 ht11 hks2 hN11 hk11 HP10 HT10 HN10
                go_wp2_with fail
                refine (sameShares_any w11 N11 _ _ _ HT11.out HU11.out (by rw [told_len]; exact HKl.out)).mono ?_
                rintro e w12 ⟨rfl, hd12⟩
                have HP12 := hide ((HP11.out.fresh (hd12.below _)).sub (N' := N11) (fun b h => .inl h))
                have HQ : Hid (n2 + (zl + 1) + (List.length (bR) + 1) ≤ cost (os.take (k + 1)) + 2 * cost (bs.take (k + 1))) := hide (by have := HBd.out; have := HCs.out; have h9 := HRl9.out; have h8 := HCb.out; omega)
                clear hd12 HP11 HT11 HU11 HBad HFb9 HRl9
                obtain ⟨xc, uc, hxc, hSx, c0, c1, c2, c3, c4, c5⟩ := HH.out k _ HOk.out
                cases hxc
                have hxk := HP12.out.bel.block _ hSx
                have c0 := cell_keep c0 hxk
                have c1 := cell_keep c1 hxk
                have c2 := cell_keep c2 hxk
                have c3 := cell_keep c3 hxk
                have c4 := cell_keep c4 hxk
                have c5 := (c5.keep (fun b hb => HP12.out.bel.block b hb)).mono (fun b hb => HN12.out b hb)
                dsimp only at c0 c1 c2 c3 c4 c5
                have ea : ∀ j, x.add (k * 5 + (j + 1)) = (⟨(x.add (k * 5)).block, (x.add (k * 5)).off + (j + 1), none⟩ : Addr) := fun j => by rw [← Addr.add_add]; simp [Addr.add]
                rw [ea 0] at c1
                rw [ea 1] at c2
                rw [ea 2] at c3
                rw [ea 3] at c4
                have HC5 := hide c5
                obtain ⟨auc, cuc, rfl, _⟩ := c5.len
                clear c5 hxk hSx ea
                go_wp2_with fail
                refine (chosenLit _ HP12.out.rot ⟨ok, ot, on, om, oR⟩ _ HC5.out HFo.out (by have := HBd.out; have := HCs.out; have := HZl.out; show n3 + (oR.length + 1) ≤ _; omega) (by show oR.length + 1 ≤ _; rw [HZl.out]; exact hRl)).mono ?_
                rintro e w13 ⟨r4, N13, rfl, hp13, _, hN13, _, _⟩
                have HP13 := hide hp13.rot
                have HN13 : Hid (∀ b, b < wx.heap.size → N13 b) := hide (fun b hb => hN13 b (HN12.out b hb))
                clear hp13 hN13 HP12 HN12 HC5 c0 c1 c2 c3 c4
                go_wp2
                go_roundw
                case rel => exact ⟨k + 1, N13, _, _, _, _, _, by omega, by go_num, hide ⟨by have := HBd.out; have := HCs.out; omega, HQ.out, by have := HBd.out; have := HCs.out; have := HZl.out; show n3 + (oR.length + 1) ≤ _; omega⟩, HP13, HN13⟩
                case measure => simp [RowKit.intOf]; omega
            · have HBad : Hid (stepS s' ⟨2, bt, bn, bm, bR⟩ = s') := hide (by
                have h9 := stepS_bad s' ⟨2, bt, bn, bm, bR⟩
                unfold badO at h9
                dsimp only at h9
                rw [if_neg (fun h => q1 h.2.1), if_neg (fun h => by have := h.1; omega)] at h9
                exact h9)
              have HP9 := HP8
              have HR9 := hide (HR8.out.mono HS8.out)
              have HT9 := hide (HT8.out.mono HS8.out)
              have HN9 := HN8
              have HRow9 := HRow8
              have HFb9 := HFb
              have HRl9 : Hid (bR.length ≤ bl + 1) := hide (by rw [HBl.out]; omega)
              clear HP8 HR8 HT8 HN8 HRow8 HFb
              go_upto_region 25 with fail
              clear d0 d2 d3 d4
              have d0 := cell_of_row _ _ 0 _ _ _ HRow9.out
              have d1 := cell_of_row _ _ 1 _ _ _ HRow9.out
              have d2 := cell_of_row _ _ 2 _ _ _ HRow9.out
              have d3 := cell_of_row _ _ 3 _ _ _ HRow9.out
              have d4 := cell_of_row _ _ 4 _ _ _ HRow9.out
              simp only [List.getElem?_toArray, List.getElem?_cons_zero, List.getElem?_cons_succ] at d0 d1 d2 d3 d4
              go_wp2_with fail
              refine (chosenLit _ HP9.out ⟨2, bt, bn, bm, bR⟩ _ HR9.out HFb9.out (by have := HBd.out; have := HCs.out; have h9 := HRl9.out; have h8 := HCb.out; show n2 + (zl + 1) + (List.length (bR) + 1) ≤ _; omega) (by have := HCs.out; have h9 := HRl9.out; have h8 := HCb.out; show List.length (bR) + 1 ≤ _; omega)).mono ?_
              rintro e w10 ⟨r3, N10, rfl, hp10, _, hN10, hk10, _⟩
              rw [HBad.out] at hp10
              have HP10 := hide hp10
              have HT10 := hide ((HT9.out.keep hk10).mono hN10)
              have HN10 : Hid (∀ b, b < wx.heap.size → N10 b) := hide (fun b hb => hN10 b (HN9.out b hb))
              clear hp10 hN10 hk10 HP9 HR9 HT9 HN9 HRow9 d0 d1 d2 d3 d4
              go_wp2_with fail
              refine (toldN _ HP10.out (by have := HBd.out; have := HCs.out; have h9 := HRl9.out; have h8 := HCb.out; show n2 + (zl + 1) + (List.length (bR) + 1) ≤ _; omega)).mono ?_
              rintro e w11 ⟨tv2, ks2, N11, rfl, hp11, ht11, hks2, _, hN11, hk11, _⟩
              rw [ks_eq hks2 HKs.out] at ht11
              have HP11 := hide hp11
              have HT11 := hide ((HT10.out.keep hk11).mono hN11)
              have HU11 := hide (ht11.mono (S' := N11) (fun b hb => hb))
              have HN12 : Hid (∀ b, b < wx.heap.size → N11 b) := hide (fun b hb => hN11 b (HN10.out b hb))
              clear hp11 ht11 hks2 hN11 hk11 HP10 HT10 HN10
              go_wp2_with fail
              refine (sameShares_any w11 N11 _ _ _ HT11.out HU11.out (by rw [told_len]; exact HKl.out)).mono ?_
              rintro e w12 ⟨rfl, hd12⟩
              have HP12 := hide ((HP11.out.fresh (hd12.below _)).sub (N' := N11) (fun b h => .inl h))
              have HQ : Hid (n2 + (zl + 1) + (List.length (bR) + 1) ≤ cost (os.take (k + 1)) + 2 * cost (bs.take (k + 1))) := hide (by have := HBd.out; have := HCs.out; have h9 := HRl9.out; have h8 := HCb.out; omega)
              clear hd12 HP11 HT11 HU11 HBad HFb9 HRl9
              obtain ⟨xc, uc, hxc, hSx, c0, c1, c2, c3, c4, c5⟩ := HH.out k _ HOk.out
              cases hxc
              have hxk := HP12.out.bel.block _ hSx
              have c0 := cell_keep c0 hxk
              have c1 := cell_keep c1 hxk
              have c2 := cell_keep c2 hxk
              have c3 := cell_keep c3 hxk
              have c4 := cell_keep c4 hxk
              have c5 := (c5.keep (fun b hb => HP12.out.bel.block b hb)).mono (fun b hb => HN12.out b hb)
              dsimp only at c0 c1 c2 c3 c4 c5
              have ea : ∀ j, x.add (k * 5 + (j + 1)) = (⟨(x.add (k * 5)).block, (x.add (k * 5)).off + (j + 1), none⟩ : Addr) := fun j => by rw [← Addr.add_add]; simp [Addr.add]
              rw [ea 0] at c1
              rw [ea 1] at c2
              rw [ea 2] at c3
              rw [ea 3] at c4
              have HC5 := hide c5
              obtain ⟨auc, cuc, rfl, _⟩ := c5.len
              clear c5 hxk hSx ea
              go_wp2_with fail
              refine (chosenLit _ HP12.out.rot ⟨ok, ot, on, om, oR⟩ _ HC5.out HFo.out (by have := HBd.out; have := HCs.out; have := HZl.out; show n3 + (oR.length + 1) ≤ _; omega) (by show oR.length + 1 ≤ _; rw [HZl.out]; exact hRl)).mono ?_
              rintro e w13 ⟨r4, N13, rfl, hp13, _, hN13, _, _⟩
              have HP13 := hide hp13.rot
              have HN13 : Hid (∀ b, b < wx.heap.size → N13 b) := hide (fun b hb => hN13 b (HN12.out b hb))
              clear hp13 hN13 HP12 HN12 HC5 c0 c1 c2 c3 c4
              go_wp2
              go_roundw
              case rel => exact ⟨k + 1, N13, _, _, _, _, _, by omega, by go_num, hide ⟨by have := HBd.out; have := HCs.out; omega, HQ.out, by have := HBd.out; have := HCs.out; have := HZl.out; show n3 + (oR.length + 1) ≤ _; omega⟩, HP13, HN13⟩
              case measure => simp [RowKit.intOf]; omega
          · have hb2b : (bk == 2) = false := by simpa using hb2
            by_cases hb3 : bk = 3
            · subst hb3
              go_wp2_with fail
              refine (proper_any W8 N7 _ bR HR8.out (by rw [HBl.out]; omega)).mono ?_
              cases hpr : prB bR with
              | false =>
                rintro e w9 ⟨rfl, hd9⟩
                have HBad : Hid (stepS s' ⟨3, bt, bn, bm, bR⟩ = s') := hide (by
                  have h9 := stepS_bad s' ⟨3, bt, bn, bm, bR⟩
                  unfold badO at h9
                  dsimp only at h9
                  rw [if_neg (fun h => by have := h.1; omega), if_neg (fun h => by rw [hpr] at h; exact absurd h.2 (by decide))] at h9
                  exact h9)
                have HP9 := hide ((HP8.out.fresh (hd9.below _)).sub (N' := N8) (fun b h => .inl h))
                have HR9 := hide ((HR8.out.keep (w' := w9) (fun b _ => by rw [hd9.heap])).mono HS8.out)
                have HT9 := hide ((HT8.out.keep (w' := w9) (fun b _ => by rw [hd9.heap])).mono HS8.out)
                have HN9 := HN8
                have HRow9 := hide ((show w9.heap[B2]? = W8.heap[B2]? by rw [hd9.heap]).trans HRow8.out)
                have HFb9 := HFb
                have HRl9 : Hid (bR.length ≤ bl + 1) := hide (by rw [HBl.out]; omega)
                clear HP8 HR8 HT8 HN8 HRow8 HFb hd9 hpr
                go_upto_region 25 with fail
                clear d0 d2 d3 d4
                have d0 := cell_of_row _ _ 0 _ _ _ HRow9.out
                have d1 := cell_of_row _ _ 1 _ _ _ HRow9.out
                have d2 := cell_of_row _ _ 2 _ _ _ HRow9.out
                have d3 := cell_of_row _ _ 3 _ _ _ HRow9.out
                have d4 := cell_of_row _ _ 4 _ _ _ HRow9.out
                simp only [List.getElem?_toArray, List.getElem?_cons_zero, List.getElem?_cons_succ] at d0 d1 d2 d3 d4
                go_wp2_with fail
                refine (chosenLit _ HP9.out ⟨3, bt, bn, bm, bR⟩ _ HR9.out HFb9.out (by have := HBd.out; have := HCs.out; have h9 := HRl9.out; have h8 := HCb.out; show n2 + (zl + 1) + (List.length (bR) + 1) ≤ _; omega) (by have := HCs.out; have h9 := HRl9.out; have h8 := HCb.out; show List.length (bR) + 1 ≤ _; omega)).mono ?_
                rintro e w10 ⟨r3, N10, rfl, hp10, _, hN10, hk10, _⟩
                rw [HBad.out] at hp10
                have HP10 := hide hp10
                have HT10 := hide ((HT9.out.keep hk10).mono hN10)
                have HN10 : Hid (∀ b, b < wx.heap.size → N10 b) := hide (fun b hb => hN10 b (HN9.out b hb))
                clear hp10 hN10 hk10 HP9 HR9 HT9 HN9 HRow9 d0 d1 d2 d3 d4
                go_wp2_with fail
                refine (toldN _ HP10.out (by have := HBd.out; have := HCs.out; have h9 := HRl9.out; have h8 := HCb.out; show n2 + (zl + 1) + (List.length (bR) + 1) ≤ _; omega)).mono ?_
                rintro e w11 ⟨tv2, ks2, N11, rfl, hp11, ht11, hks2, _, hN11, hk11, _⟩
                rw [ks_eq hks2 HKs.out] at ht11
                have HP11 := hide hp11
                have HT11 := hide ((HT10.out.keep hk11).mono hN11)
                have HU11 := hide (ht11.mono (S' := N11) (fun b hb => hb))
                have HN12 : Hid (∀ b, b < wx.heap.size → N11 b) := hide (fun b hb => hN11 b (HN10.out b hb))
                clear hp11 ht11 hks2 hN11 hk11 HP10 HT10 HN10
                go_wp2_with fail
                refine (sameShares_any w11 N11 _ _ _ HT11.out HU11.out (by rw [told_len]; exact HKl.out)).mono ?_
                rintro e w12 ⟨rfl, hd12⟩
                have HP12 := hide ((HP11.out.fresh (hd12.below _)).sub (N' := N11) (fun b h => .inl h))
                have HQ : Hid (n2 + (zl + 1) + (List.length (bR) + 1) ≤ cost (os.take (k + 1)) + 2 * cost (bs.take (k + 1))) := hide (by have := HBd.out; have := HCs.out; have h9 := HRl9.out; have h8 := HCb.out; omega)
                clear hd12 HP11 HT11 HU11 HBad HFb9 HRl9
                obtain ⟨xc, uc, hxc, hSx, c0, c1, c2, c3, c4, c5⟩ := HH.out k _ HOk.out
                cases hxc
                have hxk := HP12.out.bel.block _ hSx
                have c0 := cell_keep c0 hxk
                have c1 := cell_keep c1 hxk
                have c2 := cell_keep c2 hxk
                have c3 := cell_keep c3 hxk
                have c4 := cell_keep c4 hxk
                have c5 := (c5.keep (fun b hb => HP12.out.bel.block b hb)).mono (fun b hb => HN12.out b hb)
                dsimp only at c0 c1 c2 c3 c4 c5
                have ea : ∀ j, x.add (k * 5 + (j + 1)) = (⟨(x.add (k * 5)).block, (x.add (k * 5)).off + (j + 1), none⟩ : Addr) := fun j => by rw [← Addr.add_add]; simp [Addr.add]
                rw [ea 0] at c1
                rw [ea 1] at c2
                rw [ea 2] at c3
                rw [ea 3] at c4
                have HC5 := hide c5
                obtain ⟨auc, cuc, rfl, _⟩ := c5.len
                clear c5 hxk hSx ea
                go_wp2_with fail
                refine (chosenLit _ HP12.out.rot ⟨ok, ot, on, om, oR⟩ _ HC5.out HFo.out (by have := HBd.out; have := HCs.out; have := HZl.out; show n3 + (oR.length + 1) ≤ _; omega) (by show oR.length + 1 ≤ _; rw [HZl.out]; exact hRl)).mono ?_
                rintro e w13 ⟨r4, N13, rfl, hp13, _, hN13, _, _⟩
                have HP13 := hide hp13.rot
                have HN13 : Hid (∀ b, b < wx.heap.size → N13 b) := hide (fun b hb => hN13 b (HN12.out b hb))
                clear hp13 hN13 HP12 HN12 HC5 c0 c1 c2 c3 c4
                go_wp2
                go_roundw
                case rel => exact ⟨k + 1, N13, _, _, _, _, _, by omega, by go_num, hide ⟨by have := HBd.out; have := HCs.out; omega, HQ.out, by have := HBd.out; have := HCs.out; have := HZl.out; show n3 + (oR.length + 1) ≤ _; omega⟩, HP13, HN13⟩
                case measure => simp [RowKit.intOf]; omega
              | true =>
                rintro e w9 ⟨rfl, hd9⟩
                have HBad : Hid (stepS s' ⟨3, bt, bn, bm, bR ++ [0]⟩ = s') := hide (by
                  have h9 := stepS_bad s' ⟨3, bt, bn, bm, bR⟩
                  unfold badO at h9
                  dsimp only at h9
                  rw [if_neg (fun h => by have := h.1; omega), if_pos ⟨rfl, hpr⟩] at h9
                  exact h9)
                have HP9a := hide ((HP8.out.fresh (hd9.below _)).sub (N' := N8) (fun b h => .inl h))
                have HR9a := hide (HR8.out.keep (w' := w9) (fun b _ => by rw [hd9.heap]))
                have HT9a := hide (HT8.out.keep (w' := w9) (fun b _ => by rw [hd9.heap]))
                have HRow9a : Hid (w9.heap[B2]? = some (.cells #[.int .i64 3, .int .i64 bt, .int .i64 bn, .int .i64 bm, .slice a2 bl c2b] 40 (0, 0))) := hide (by rw [hd9.heap]; exact HRow8.out)
                have hB2l := HP9a.out.lt B2 HNB8.out
                have HFb9 : Hid (I64 bn ∧ ∀ z ∈ bR ++ [0], I64 z) := hide ⟨HFb.out.1, fun z hz => by
                  rcases List.mem_append.1 hz with h | h
                  · exact HFb.out.2 z h
                  · simp at h; subst h; unfold I64; omega⟩
                have HRl9 : Hid (List.length (bR ++ [0]) ≤ bl + 1) := hide (by rw [List.length_append, HBl.out]; exact Nat.le_refl _)
                clear HP8 HR8 HT8 HRow8 hd9 hpr d0 d2 d3 d4 HFb
                have d4 := cell_of_row _ _ 4 _ _ _ HRow9a.out
                simp only [List.getElem?_toArray, List.getElem?_cons_zero, List.getElem?_cons_succ] at d4
                go_wp2_with fail
                refine (ownInts_any w9 N7 _ bR HR9a.out (fun b hb => HP9a.out.lt b (HS8.out b hb)) (by rw [HBl.out]; omega)).mono ?_
                rintro e w10 ⟨r5, rfl, ho5, hb10⟩
                have HO10 : Hid (w10.ownsRow w9.heap.size 3 1 r5 bl (bR.map Zi)) := hide (by have := ho5; unfold Oi at this; rw [HBl.out] at this; exact this)
                obtain ⟨av5, cv5, rfl⟩ := own_shape HO10.out
                have hs10 := hb10.size
                have HB10 := hide hb10
                clear ho5 hb10
                go_upto_region 25 with (refine wpList_append_own _ rfl (.tmp 135) (.tmp 136) 28 rfl w9.heap.size 3 i3 (.int .i64 0) 1 8 Try.underlying28 hi hz3 hs hb rfl (by decide) _ bl _ rfl (World.ownsRow.alloc HO10.out _) (⟨w10.heap.size, 0, none⟩) 1 1 [.int .i64 0] rfl rfl (cell_one_new _ _ _) (by simp [Value.oneCell']) (by unfold maxLen; omega) (by omega) (by simp; omega) ?_; intro v' w11 hown hg11 _; obtain ⟨av6, cv6, rfl⟩ := own_shape hown; have HB11 : Hid (Below w9.heap.size w9 w11) := hide ((HB10.out.alloc HB10.out.size _).grown hg11 (by simp; omega) (fun j hj => (World.ownsRow.lt HO10.out j hj).1)); have HRow11 : Hid (w11.heap[B2]? = some (.cells #[.int .i64 3, .int .i64 bt, .int .i64 bn, .int .i64 bm, .slice a2 bl c2b] 40 (0, 0))) := hide ((HB11.out.block B2 hB2l).trans HRow9a.out); have d4' := cell_of_row w11 B2 4 _ _ _ HRow11.out; simp only [List.getElem?_toArray, List.getElem?_cons_zero, List.getElem?_cons_succ] at d4'; have f4' := frozen_of_row w11 B2 4 _ _ HRow11.out; have HO11 := hide hown; clear hown hg11)
                have HP11 := hide (HP9a.out.fresh HB11.out)
                have hst := heap_setCell_same w11 B2 4 _ _ (.slice av6 (bl + 1) cv6) HRow11.out
                have HRow9 : Hid ((w11.setCell ⟨B2, 4, none⟩ (.slice av6 (bl + 1) cv6)).heap[B2]? = some (.cells #[.int .i64 3, .int .i64 bt, .int .i64 bn, .int .i64 bm, .slice av6 (bl + 1) cv6] 40 (0, 0))) := hide (by simpa using hst)
                have hoth : ∀ b, b ≠ B2 → (w11.setCell ⟨B2, 4, none⟩ (.slice av6 (bl + 1) cv6)).heap[b]? = w11.heap[b]? := fun b hb => heap_setCell_other w11 ⟨B2, 4, none⟩ _ _ hb
                have HP9 := hide (HP11.out.set (o := 4) (.inl HNB8.out) HB28.out (.slice av6 (bl + 1) cv6))
                have hOi : Oi w11 w9.heap.size (.slice av6 (bl + 1) cv6) (bR ++ [0]) := by
                  have h9 := HO11.out
                  unfold Oi
                  rw [List.map_append, List.length_append, HBl.out]
                  exact h9
                have HR9 := hide ((hOi.rd.keep (w' := w11.setCell ⟨B2, 4, none⟩ (.slice av6 (bl + 1) cv6)) (fun b hb => hoth b (by have := hb.1; omega))).mono (S' := fun b => N8 b ∨ (w9.heap.size ≤ b ∧ b < w11.heap.size)) (fun b hb => .inr ⟨hb.1, hb.2.1⟩))
                have HT9 := hide (((HT9a.out.keep (w' := w11) (fun b hb => HB11.out.block b (HP9a.out.lt b (HS8.out b hb)))).keep (w' := w11.setCell ⟨B2, 4, none⟩ (.slice av6 (bl + 1) cv6)) (fun b hb => hoth b (HL7.out b hb))).mono (S' := fun b => N8 b ∨ (w9.heap.size ≤ b ∧ b < w11.heap.size)) (fun b hb => .inl (HS8.out b hb)))
                have HN9 : Hid (∀ b, b < wx.heap.size → N8 b ∨ (w9.heap.size ≤ b ∧ b < w11.heap.size)) := hide (fun b hb => .inl (HN8.out b hb))
                clear hst hoth hOi HP11 HP9a HR9a HT9a HRow9a HN8 HB11 HB10 HRow11 HO11 HO10 d4 d4' f4'
                generalize w11.setCell ⟨B2, 4, none⟩ (.slice av6 (bl + 1) cv6) = W9 at *
                have d0 := cell_of_row _ _ 0 _ _ _ HRow9.out
                have d1 := cell_of_row _ _ 1 _ _ _ HRow9.out
                have d2 := cell_of_row _ _ 2 _ _ _ HRow9.out
                have d3 := cell_of_row _ _ 3 _ _ _ HRow9.out
                have d4 := cell_of_row _ _ 4 _ _ _ HRow9.out
                simp only [List.getElem?_toArray, List.getElem?_cons_zero, List.getElem?_cons_succ] at d0 d1 d2 d3 d4
                go_wp2_with fail
                refine (chosenLit _ HP9.out ⟨3, bt, bn, bm, bR ++ [0]⟩ _ HR9.out HFb9.out (by have := HBd.out; have := HCs.out; have h9 := HRl9.out; have h8 := HCb.out; show n2 + (zl + 1) + (List.length (bR ++ [0]) + 1) ≤ _; omega) (by have := HCs.out; have h9 := HRl9.out; have h8 := HCb.out; show List.length (bR ++ [0]) + 1 ≤ _; omega)).mono ?_
                rintro e w10 ⟨r3, N10, rfl, hp10, _, hN10, hk10, _⟩
                rw [HBad.out] at hp10
                have HP10 := hide hp10
                have HT10 := hide ((HT9.out.keep hk10).mono hN10)
                have HN10 : Hid (∀ b, b < wx.heap.size → N10 b) := hide (fun b hb => hN10 b (HN9.out b hb))
                clear hp10 hN10 hk10 HP9 HR9 HT9 HN9 HRow9 d0 d1 d2 d3 d4
                go_wp2_with fail
                refine (toldN _ HP10.out (by have := HBd.out; have := HCs.out; have h9 := HRl9.out; have h8 := HCb.out; show n2 + (zl + 1) + (List.length (bR ++ [0]) + 1) ≤ _; omega)).mono ?_
                rintro e w11 ⟨tv2, ks2, N11, rfl, hp11, ht11, hks2, _, hN11, hk11, _⟩
                rw [ks_eq hks2 HKs.out] at ht11
                have HP11 := hide hp11
                have HT11 := hide ((HT10.out.keep hk11).mono hN11)
                have HU11 := hide (ht11.mono (S' := N11) (fun b hb => hb))
                have HN12 : Hid (∀ b, b < wx.heap.size → N11 b) := hide (fun b hb => hN11 b (HN10.out b hb))
                clear hp11 ht11 hks2 hN11 hk11 HP10 HT10 HN10
                go_wp2_with fail
                refine (sameShares_any w11 N11 _ _ _ HT11.out HU11.out (by rw [told_len]; exact HKl.out)).mono ?_
                rintro e w12 ⟨rfl, hd12⟩
                have HP12 := hide ((HP11.out.fresh (hd12.below _)).sub (N' := N11) (fun b h => .inl h))
                have HQ : Hid (n2 + (zl + 1) + (List.length (bR ++ [0]) + 1) ≤ cost (os.take (k + 1)) + 2 * cost (bs.take (k + 1))) := hide (by have := HBd.out; have := HCs.out; have h9 := HRl9.out; have h8 := HCb.out; omega)
                clear hd12 HP11 HT11 HU11 HBad HFb9 HRl9
                obtain ⟨xc, uc, hxc, hSx, c0, c1, c2, c3, c4, c5⟩ := HH.out k _ HOk.out
                cases hxc
                have hxk := HP12.out.bel.block _ hSx
                have c0 := cell_keep c0 hxk
                have c1 := cell_keep c1 hxk
                have c2 := cell_keep c2 hxk
                have c3 := cell_keep c3 hxk
                have c4 := cell_keep c4 hxk
                have c5 := (c5.keep (fun b hb => HP12.out.bel.block b hb)).mono (fun b hb => HN12.out b hb)
                dsimp only at c0 c1 c2 c3 c4 c5
                have ea : ∀ j, x.add (k * 5 + (j + 1)) = (⟨(x.add (k * 5)).block, (x.add (k * 5)).off + (j + 1), none⟩ : Addr) := fun j => by rw [← Addr.add_add]; simp [Addr.add]
                rw [ea 0] at c1
                rw [ea 1] at c2
                rw [ea 2] at c3
                rw [ea 3] at c4
                have HC5 := hide c5
                obtain ⟨auc, cuc, rfl, _⟩ := c5.len
                clear c5 hxk hSx ea
                go_wp2_with fail
                refine (chosenLit _ HP12.out.rot ⟨ok, ot, on, om, oR⟩ _ HC5.out HFo.out (by have := HBd.out; have := HCs.out; have := HZl.out; show n3 + (oR.length + 1) ≤ _; omega) (by show oR.length + 1 ≤ _; rw [HZl.out]; exact hRl)).mono ?_
                rintro e w13 ⟨r4, N13, rfl, hp13, _, hN13, _, _⟩
                have HP13 := hide hp13.rot
                have HN13 : Hid (∀ b, b < wx.heap.size → N13 b) := hide (fun b hb => hN13 b (HN12.out b hb))
                clear hp13 hN13 HP12 HN12 HC5 c0 c1 c2 c3 c4
                go_wp2
                go_roundw
                case rel => exact ⟨k + 1, N13, _, _, _, _, _, by omega, by go_num, hide ⟨by have := HBd.out; have := HCs.out; omega, HQ.out, by have := HBd.out; have := HCs.out; have := HZl.out; show n3 + (oR.length + 1) ≤ _; omega⟩, HP13, HN13⟩
                case measure => simp [RowKit.intOf]; omega
            · have hb3b : (bk == 3) = false := by simpa using hb3
              have HBad : Hid (stepS s' ⟨bk, bt, bn, bm, bR⟩ = s') := hide (by
                have h9 := stepS_bad s' ⟨bk, bt, bn, bm, bR⟩
                unfold badO at h9
                dsimp only at h9
                rw [if_neg (fun h => hb2 h.1), if_neg (fun h => hb3 h.1)] at h9
                exact h9)
              have HP9 := HP8
              have HR9 := hide (HR8.out.mono HS8.out)
              have HT9 := hide (HT8.out.mono HS8.out)
              have HN9 := HN8
              have HRow9 := HRow8
              have HFb9 := HFb
              have HRl9 : Hid (bR.length ≤ bl + 1) := hide (by rw [HBl.out]; omega)
              clear HP8 HR8 HT8 HN8 HRow8 HFb
              go_upto_region 25 with fail
              clear d0 d2 d3 d4
              have d0 := cell_of_row _ _ 0 _ _ _ HRow9.out
              have d1 := cell_of_row _ _ 1 _ _ _ HRow9.out
              have d2 := cell_of_row _ _ 2 _ _ _ HRow9.out
              have d3 := cell_of_row _ _ 3 _ _ _ HRow9.out
              have d4 := cell_of_row _ _ 4 _ _ _ HRow9.out
              simp only [List.getElem?_toArray, List.getElem?_cons_zero, List.getElem?_cons_succ] at d0 d1 d2 d3 d4
              go_wp2_with fail
              refine (chosenLit _ HP9.out ⟨bk, bt, bn, bm, bR⟩ _ HR9.out HFb9.out (by have := HBd.out; have := HCs.out; have h9 := HRl9.out; have h8 := HCb.out; show n2 + (zl + 1) + (List.length (bR) + 1) ≤ _; omega) (by have := HCs.out; have h9 := HRl9.out; have h8 := HCb.out; show List.length (bR) + 1 ≤ _; omega)).mono ?_
              rintro e w10 ⟨r3, N10, rfl, hp10, _, hN10, hk10, _⟩
              rw [HBad.out] at hp10
              have HP10 := hide hp10
              have HT10 := hide ((HT9.out.keep hk10).mono hN10)
              have HN10 : Hid (∀ b, b < wx.heap.size → N10 b) := hide (fun b hb => hN10 b (HN9.out b hb))
              clear hp10 hN10 hk10 HP9 HR9 HT9 HN9 HRow9 d0 d1 d2 d3 d4
              go_wp2_with fail
              refine (toldN _ HP10.out (by have := HBd.out; have := HCs.out; have h9 := HRl9.out; have h8 := HCb.out; show n2 + (zl + 1) + (List.length (bR) + 1) ≤ _; omega)).mono ?_
              rintro e w11 ⟨tv2, ks2, N11, rfl, hp11, ht11, hks2, _, hN11, hk11, _⟩
              rw [ks_eq hks2 HKs.out] at ht11
              have HP11 := hide hp11
              have HT11 := hide ((HT10.out.keep hk11).mono hN11)
              have HU11 := hide (ht11.mono (S' := N11) (fun b hb => hb))
              have HN12 : Hid (∀ b, b < wx.heap.size → N11 b) := hide (fun b hb => hN11 b (HN10.out b hb))
              clear hp11 ht11 hks2 hN11 hk11 HP10 HT10 HN10
              go_wp2_with fail
              refine (sameShares_any w11 N11 _ _ _ HT11.out HU11.out (by rw [told_len]; exact HKl.out)).mono ?_
              rintro e w12 ⟨rfl, hd12⟩
              have HP12 := hide ((HP11.out.fresh (hd12.below _)).sub (N' := N11) (fun b h => .inl h))
              have HQ : Hid (n2 + (zl + 1) + (List.length (bR) + 1) ≤ cost (os.take (k + 1)) + 2 * cost (bs.take (k + 1))) := hide (by have := HBd.out; have := HCs.out; have h9 := HRl9.out; have h8 := HCb.out; omega)
              clear hd12 HP11 HT11 HU11 HBad HFb9 HRl9
              obtain ⟨xc, uc, hxc, hSx, c0, c1, c2, c3, c4, c5⟩ := HH.out k _ HOk.out
              cases hxc
              have hxk := HP12.out.bel.block _ hSx
              have c0 := cell_keep c0 hxk
              have c1 := cell_keep c1 hxk
              have c2 := cell_keep c2 hxk
              have c3 := cell_keep c3 hxk
              have c4 := cell_keep c4 hxk
              have c5 := (c5.keep (fun b hb => HP12.out.bel.block b hb)).mono (fun b hb => HN12.out b hb)
              dsimp only at c0 c1 c2 c3 c4 c5
              have ea : ∀ j, x.add (k * 5 + (j + 1)) = (⟨(x.add (k * 5)).block, (x.add (k * 5)).off + (j + 1), none⟩ : Addr) := fun j => by rw [← Addr.add_add]; simp [Addr.add]
              rw [ea 0] at c1
              rw [ea 1] at c2
              rw [ea 2] at c3
              rw [ea 3] at c4
              have HC5 := hide c5
              obtain ⟨auc, cuc, rfl, _⟩ := c5.len
              clear c5 hxk hSx ea
              go_wp2_with fail
              refine (chosenLit _ HP12.out.rot ⟨ok, ot, on, om, oR⟩ _ HC5.out HFo.out (by have := HBd.out; have := HCs.out; have := HZl.out; show n3 + (oR.length + 1) ≤ _; omega) (by show oR.length + 1 ≤ _; rw [HZl.out]; exact hRl)).mono ?_
              rintro e w13 ⟨r4, N13, rfl, hp13, _, hN13, _, _⟩
              have HP13 := hide hp13.rot
              have HN13 : Hid (∀ b, b < wx.heap.size → N13 b) := hide (fun b hb => hN13 b (HN12.out b hb))
              clear hp13 hN13 HP12 HN12 HC5 c0 c1 c2 c3 c4
              go_wp2
              go_roundw
              case rel => exact ⟨k + 1, N13, _, _, _, _, _, by omega, by go_num, hide ⟨by have := HBd.out; have := HCs.out; omega, HQ.out, by have := HBd.out; have := HCs.out; have := HZl.out; show n3 + (oR.length + 1) ≤ _; omega⟩, HP13, HN13⟩
              case measure => simp [RowKit.intOf]; omega
        · have hkbi : ¬ (k : Int) < mb := by omega
          have HP12 := HP7
          have HN12 := HN7
          have HQ : Hid (n2 + (zl + 1) ≤ cost (os.take (k + 1)) + 2 * cost (bs.take (k + 1))) := hide (by
            have := HBd.out; have := HCs.out; have h8 := cost_end (l := bs) (k := k) (by rw [HLb.out]; exact hkb); omega)
          clear HP7 HN7 HT7 HKs HKl
          obtain ⟨xc, uc, hxc, hSx, c0, c1, c2, c3, c4, c5⟩ := HH.out k _ HOk.out
          cases hxc
          have hxk := HP12.out.bel.block _ hSx
          have c0 := cell_keep c0 hxk
          have c1 := cell_keep c1 hxk
          have c2 := cell_keep c2 hxk
          have c3 := cell_keep c3 hxk
          have c4 := cell_keep c4 hxk
          have c5 := (c5.keep (fun b hb => HP12.out.bel.block b hb)).mono (fun b hb => HN12.out b hb)
          dsimp only at c0 c1 c2 c3 c4 c5
          have ea : ∀ j, x.add (k * 5 + (j + 1)) = (⟨(x.add (k * 5)).block, (x.add (k * 5)).off + (j + 1), none⟩ : Addr) := fun j => by rw [← Addr.add_add]; simp [Addr.add]
          rw [ea 0] at c1
          rw [ea 1] at c2
          rw [ea 2] at c3
          rw [ea 3] at c4
          have HC5 := hide c5
          obtain ⟨auc, cuc, rfl, _⟩ := c5.len
          clear c5 hxk hSx ea
          go_wp2_with fail
          refine (chosenLit _ HP12.out.rot ⟨ok, ot, on, om, oR⟩ _ HC5.out HFo.out (by have := HBd.out; have := HCs.out; have := HZl.out; show n3 + (oR.length + 1) ≤ _; omega) (by show oR.length + 1 ≤ _; rw [HZl.out]; exact hRl)).mono ?_
          rintro e w13 ⟨r4, N13, rfl, hp13, _, hN13, _, _⟩
          have HP13 := hide hp13.rot
          have HN13 : Hid (∀ b, b < wx.heap.size → N13 b) := hide (fun b hb => hN13 b (HN12.out b hb))
          clear hp13 hN13 HP12 HN12 HC5 c0 c1 c2 c3 c4
          go_wp2
          go_roundw
          case rel => exact ⟨k + 1, N13, _, _, _, _, _, by omega, by go_num, hide ⟨by have := HBd.out; have := HCs.out; omega, HQ.out, by have := HBd.out; have := HCs.out; have := HZl.out; show n3 + (oR.length + 1) ≤ _; omega⟩, HP13, HN13⟩
          case measure => simp [RowKit.intOf]; omega
    · obtain rfl : k = m := by omega
      go_wp2_with fail
      refine (toldN _ HP.out (by have := HBd.out; have := cost_take os k; omega)).mono ?_
      rintro e w7 ⟨tv, ks, N7, rfl, hp7, ht7, hks7, hkl7, hN7, hk7, hs7⟩
      have HP7 := hide hp7.rot
      have HT7 := hide (ht7.mono (S' := N7) (fun b hb => hb))
      have HKs := hide hks7
      have HKl : Hid (ks.length ≤ 4194304) := hide (by have := HBd.out; have := cost_take os k; omega)
      clear hp7 ht7 hks7 hkl7 hN7 hk7 hs7
      go_wp2_with fail
      refine (toldN _ HP7.out (by have := HBd.out; have := cost_take os k; have := cost_take bs k; omega)).mono ?_
      rintro e w11 ⟨tv2, ks2, N11, rfl, hp11, ht11, hks2, _, hN11, hk11, _⟩
      rw [ks_eq hks2 HKs.out] at ht11
      have HP11 := hide hp11
      have HT11 := hide ((HT7.out.keep hk11).mono hN11)
      have HU11 := hide (ht11.mono (S' := N11) (fun b hb => hb))
      clear hp11 ht11 hks2 hN11 hk11
      go_wp2_with fail
      refine (sameShares_any w11 N11 _ _ _ HT11.out HU11.out (by rw [told_len]; exact HKl.out)).mono ?_
      rintro e w12 ⟨rfl, hd12⟩
      have HB12 : Hid (Below wx.heap.size wx w12) := hide (HP11.out.bel.trans (hd12.below _))
      clear hd12
      go_wp2
      go_ret
      exact ⟨rfl, HB12.out⟩
end
end Go.Proofs.Ytjkjafbbijdniaa
