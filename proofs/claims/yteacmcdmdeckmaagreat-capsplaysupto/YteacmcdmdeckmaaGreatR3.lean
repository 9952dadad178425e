import Derived.Test.YteacmcdmdeckmaaGreatR2
namespace Go.Proofs.YteacmcdmdeckmaaGreat
open Go.RowKit

theorem BookAt.open' {w : World} {F : Nat → Prop} {B T : Nat} {G : Nat → Prop} {m : List (Option Nat)} {fs : Nat → Nat → Prop} {bk : List (Option Lst)} (h : BookAt w F B T G m fs bk) {i : Nat} {l : Lst} (hl : bk[i]? = some (some l)) : ∃ b, m[i]? = some (some b) ∧ look m (i : Int) = some b ∧ l.length = 48 ∧ Tab KR w (fs i) b l := by
  have hi : i < m.length := by rw [h.len, ← h.blen]; exact (List.getElem?_eq_some_iff.1 hl).1
  cases hmi : m[i] with
  | none => have := h.free i (by rw [List.getElem?_eq_getElem hi, hmi]); rw [hl] at this; cases this
  | some b =>
    have hm : m[i]? = some (some b) := by rw [List.getElem?_eq_getElem hi, hmi]
    obtain ⟨l', h1, h2, h3⟩ := h.held i b hm
    rw [hl] at h1; cases h1
    exact ⟨b, hm, by rw [look_nat, hm]; rfl, h2, h3⟩
theorem set2 {w : World} {b : Nat} {x0 x1 x2 x3 x4 x5 : Value} {t : TypeId} (h : w.heap[b]? = some (.cells #[x0, x1, x2, x3, x4, x5] t (0, 0))) (y4 y5 : Value) :
    ((w.setCell ⟨b, 4, none⟩ y4).setCell ⟨b, 5, none⟩ y5).heap[b]? = some (.cells #[x0, x1, x2, x3, y4, y5] t (0, 0)) := by
  have h5 := heap_setCell_same _ b 4 _ _ y4 h
  have h6 := heap_setCell_same _ b 5 _ _ y5 h5
  rw [h6]; rfl
theorem encPs_at {ps : List (Nat × Nat)} {k : Nat} (hk : k < ps.length) : (encPs ps)[k * 2]? = some (.int .i64 ((ps[k].1 : Nat) : Int)) ∧ (encPs ps)[k * 2 + 1]? = some (.int .i64 ((ps[k].2 : Nat) : Int)) := by
  have e : encPs ps = encPs (ps.take k) ++ (encP ps[k] ++ encPs (ps.drop (k + 1))) := by
    unfold encPs
    rw [← List.flatMap_cons, ← List.drop_eq_getElem_cons hk, ← List.flatMap_append, List.take_append_drop]
  have hl : (encPs (ps.take k)).length = k * 2 := by rw [encPs_len, List.length_take, Nat.min_eq_left (by omega)]
  rw [e]
  constructor
  · rw [List.getElem?_append_right (by omega), hl, Nat.sub_self]; rfl
  · rw [List.getElem?_append_right (by omega), hl, show k * 2 + 1 - k * 2 = 1 by omega]; rfl

set_option maxRecDepth 8000 in
set_option maxHeartbeats 8000000 in
theorem drop_any (w : World) (F : Nat → Prop) (B : Nat) (bk : List (Option Lst)) (h : Book w F B bk) (i j : Nat) (r0 : Rc) (hr : atB bk (i : Int) (j : Int) = some r0) :
    Calls Tryz.prog 72 #[.pointer (some ⟨B, 0, none⟩), .agg #[.int .i64 (i : Int), .int .i64 (j : Int)]] w fun x w' => x = .returned (.tuple #[]) ∧ ∃ bk', Book w' F B bk' ∧ Ext F w F w' ∧ DropR bk i j r0 bk' := by
  have hb0 := (Below.refl w.heap.size w).alloc (Nat.le_refl _) (.cells #[.int .i64 (i : Int), .int .i64 (j : Int)] 48)
  have hk := hide (h.below hb0)
  have HB0 := hide hb0
  have hP := heap_alloc_new w (.cells #[.int .i64 (i : Int), .int .i64 (j : Int)] 48)
  have HFl := hide h.lt
  have HR := hide hr
  have hn0 : w.heap.size < (w.alloc (.cells #[.int .i64 (i : Int), .int .i64 (j : Int)] 48)).heap.size := by simp
  clear h hb0 hr
  go_enter Tryz.func72, Tryz.ntmps72
  go_wp2_with fail
  generalize w.alloc (.cells #[.int .i64 (i : Int), .int .i64 (j : Int)] 48) = w0 at *
  generalize hn : w.heap.size = n0 at *
  refine (remove_any w0 F B bk hk.out i j r0 HR.out).mono ?_
  rintro e w1 ⟨rfl, hB1, hE1⟩
  have hP1 : w1.heap[n0]? = some (.cells #[.int .i64 (i : Int), .int .i64 (j : Int)] 48 (0, 0)) := (hE1.mod.block n0 hn0 (fun hf => by have := HFl.out n0 hf; omega)).trans hP
  have hn1 : n0 < w1.heap.size := (Array.getElem?_eq_some_iff.1 hP1).1
  have H1 := hide hB1
  have HE1 := hide (hE1)
  clear hB1 hE1 hk hP
  go_wp2_with fail
  refine (parent_any w1 r0).mono ?_
  rintro e w2 ⟨rfl, hb2⟩
  have hP2 := (hb2.block n0 hn1).trans hP1
  have hP3 := (Below.heap_alloc w2 (.cells #[.int .i64 r0.e, .int .i64 r0.t] 48) n0 (Array.getElem?_eq_some_iff.1 hP2).1).trans hP2
  have hQ3 := heap_alloc_new w2 (.cells #[.int .i64 r0.e, .int .i64 r0.t] 48)
  have H2 := hide ((H1.out.below hb2).below ((Below.refl _ _).alloc (Nat.le_refl _) (.cells #[.int .i64 r0.e, .int .i64 r0.t] 48)))
  have HE2 := hide ((HE1.out.trans (Ext.of_below hb2)).trans (Ext.of_below ((Below.refl _ _).alloc (Nat.le_refl _) (.cells #[.int .i64 r0.e, .int .i64 r0.t] 48))))
  have hq2 : n0 < w2.heap.size := (Array.getElem?_eq_some_iff.1 hP2).1
  clear hb2 hP2 hP1 HE1 H1
  go_upto_region 2 with fail
  generalize hgw : w2.alloc (.cells #[.int .i64 r0.e, .int .i64 r0.t] 48) = w3 at *
  clear hgw
  obtain ⟨p0, p1, _, _⟩ := blk2 hP3
  go_wp2_with fail
  refine (same_parent w3 (i : Int) (j : Int)).mono ?_
  rintro e w4 ⟨rfl, hf4, hv4, hb4⟩
  have H4 := hide (H2.out.below hb4)
  have HE4 := hide (HE2.out.trans (Ext.of_below hb4))
  have hQ4 := (hb4.block w2.heap.size (Array.getElem?_eq_some_iff.1 hQ3).1).trans hQ3
  clear hb4 hQ3 hP3 H2 HE2 p0 p1
  go_wp2_with fail
  refine (places_any F B (setAt bk i j none) w4 H4.out 105 w3.heap.size (w3.heap.size + 1) _ _ _ (fits_parent _ _ (i : Int) (j : Int)) hf4 hv4).mono ?_
  rintro e w5 ⟨v5, rfl, hrow, hb5⟩
  have H5 := hide (H4.out.below hb5)
  have HE5 := hide (HE4.out.trans (Ext.of_below hb5))
  have hQ5 := (hb5.block w2.heap.size (Array.getElem?_eq_some_iff.1 hQ4).1).trans hQ4
  have HDone := hide (fun bk' => RelK.done (bk' := bk') HR.out)
  have hle := pls_le H5.out (fun r => decide (r.e = (i : Int)) && decide (r.t = (j : Int)))
  have HMem := hide (fun a b => (mem_pls (P := fun r => decide (r.e = (i : Int)) && decide (r.t = (j : Int))) (bk := setAt bk i j none) (a := a) (b := b)).1)
  have hn4 : n0 ≤ w4.heap.size := by have := (Array.getElem?_eq_some_iff.1 hQ4).1; omega
  clear hb5 hQ4 H4 HE4 hf4 hv4
  generalize pls (fun r => decide (r.e = (i : Int)) && decide (r.t = (j : Int))) (setAt bk i j none) = ps at *
  generalize setAt bk i j none = bk1 at *
  obtain ⟨a5, c5, rfl⟩ := own_shape hrow
  generalize w2.heap.size = n2 at *
  have HRow := hide hrow
  have HQ := hide hQ5
  clear hrow hQ5
  go_wp2_with fail
  go_loopw [20] (fun x wr => ∃ (k : Nat) (bk' : List (Option Lst)), k ≤ ps.length ∧ x = .int .i64 (k : Int) ∧ Hid (Book wr F B bk') ∧ Hid (Ext F w5 F wr) ∧ Hid (RelK ps r0.e r0.t k bk1 bk')) (fun x _ => ps.length - (intOf x).toNat)
  case atStart => exact ⟨0, bk1, by omega, rfl, H5, Ext.refl _ _, RelK.start _ _ _ _⟩
  case round =>
  obtain ⟨k, bk', hk, rfl, K1, K2, K3⟩ := hrel
  by_cases hlt : k < ps.length
  · obtain ⟨r1, hr1, -⟩ := HMem.out ps[k].1 ps[k].2 (List.getElem_mem hlt)
    obtain ⟨r', hr', he'⟩ := K3.out.held hr1
    obtain ⟨gq, rfl, hcq⟩ : ∃ gq, a5 = some ⟨gq, 0, none⟩ ∧ wr.cell? ⟨gq, k * 2, none⟩ = some (.int .i64 ((ps[k].1 : Nat) : Int)) ∧ wr.cell? ⟨gq, k * 2 + 1, none⟩ = some (.int .i64 ((ps[k].2 : Nat) : Int)) := by
      obtain ⟨_, ⟨h0, h00⟩ | ⟨g0, cap, cur, hv0, hgb, hg0, _⟩⟩ := HRow.out
      · omega
      · cases hv0
        have hkeep := K2.out.mod.block g0 (Array.getElem?_eq_some_iff.1 hg0).1 (fun hf => by have := HFl.out g0 hf; omega)
        have hw : wr.ownsRow w4.heap.size 48 2 (.slice (some ⟨g0, 0, none⟩) ps.length c5) ps.length (encPs ps) := by
          obtain ⟨q1, ⟨h0, h00⟩ | ⟨g1, cap1, cur1, hv1, hgb1, hg1, hr1⟩⟩ := HRow.out
          · cases h0
          · cases hv1
            exact ⟨q1, .inr ⟨g0, c5, cur1, rfl, hgb1, hkeep.trans hg1, hr1⟩⟩
        refine ⟨g0, rfl, ?_, ?_⟩
        · rw [hw.cellAt (k * 2) (by omega)]; exact (encPs_at hlt).1
        · rw [hw.cellAt (k * 2 + 1) (by omega)]; exact (encPs_at hlt).2
    have HNext := hide (K3.out.next hlt hr1 hr' he')
    have hQr : wr.heap[n2]? = some (.cells #[.int .i64 r0.e, .int .i64 r0.t] 48 (0, 0)) := (K2.out.mod.block n2 (Array.getElem?_eq_some_iff.1 HQ.out).1 (fun hf => by have := HFl.out n2 hf; omega)).trans HQ.out
    clear hr1 he'
    generalize ps[k].1 = pi at *
    generalize ps[k].2 = pj at *
    obtain ⟨i', j', l, ei, ej, h3, h4, h5⟩ := atB_some hr'
    obtain rfl : pi = i' := by omega
    obtain rfl : pj = j' := by omega
    obtain ⟨T, G, m, fs, hA⟩ := K1.out
    obtain ⟨b, hm, hlm, h48, hTl⟩ := hA.open' h3
    obtain ⟨cq0, cq1⟩ := hcq
    have hkl : (k : Int) < (ps.length : Int) := by omega
    have hwk : k * 2 + 1 < ps.length * 2 := by omega
    have HN2 := hide hQr
    have HA := hide hA
    have HM := hide hm
    have H48 := hide h48
    have HTL := hide hTl
    have H4 := hide h4
    have HLF := hide h5
    have HLM := hide hlm
    clear hQr hA hm h48 hTl h4 h5 h3 hr' hlm ei ej HRow HMem HDone K1
    go_upto_region 5 with fail
    have hb6 := (Below.refl wr.heap.size wr).alloc (Nat.le_refl _) (.cells #[.int .i64 (pi : Int), .int .i64 (pj : Int)] 48)
    have hN6 := heap_alloc_new wr (.cells #[.int .i64 (pi : Int), .int .i64 (pj : Int)] 48)
    generalize wr.alloc (.cells #[.int .i64 (pi : Int), .int .i64 (pj : Int)] 48) = w6 at *
    have hA6 := HA.out.keep hb6.size (fun x hx => hb6.block x (HA.out.lt x hx))
    have HG := hide (getL_any w6.drew G T m (hA6.tab.below (Below.refl _ _).drew) pi)
    rw [HLM.out] at HG
    simp only [ptr, Option.isSome_some] at HG
    have c6 : w6.drew.cell? ⟨B, 0, none⟩ = some (.pointer (some ⟨T, 0, none⟩)) ∧ w6.drew.cell? ⟨wr.heap.size, 0, none⟩ = some (.int .i64 (pi : Int)) := ⟨hA6.cell, (blk2 hN6).1⟩
    have HB6 := hide hb6.drew
    have HN6 : Hid (w6.drew.heap[wr.heap.size]? = some (.cells #[.int .i64 (pi : Int), .int .i64 (pj : Int)] 48 (0, 0))) := hN6
    clear hb6 hN6 hA6 cq0 cq1
    go_region_held (fun W => W.cell? ⟨B, 0, none⟩ = some (.pointer (some ⟨T, 0, none⟩)) ∧ W.cell? ⟨wr.heap.size, 0, none⟩ = some (.int .i64 (pi : Int)))
      (first | assumption | exact c6)
      (first | (go_at_call 33; refine HG.out.mono ?_; rintro e1 w1 ⟨rfl, hw1⟩; subst hw1))
    clear c6 HG
    generalize w6.drew = w7 at *
    have HT7 := hide (HTL.out.below HB6.out)
    have HGR := hide (getR_any w7 (fs pi) b l HT7.out pj)
    rw [show look l (pj : Int) = some r' by rw [look_nat, H4.out]; rfl] at HGR
    simp only [Option.getD_some, Option.isSome_some] at HGR
    obtain ⟨-, cj, -, -⟩ := blk2 HN6.out
    go_wp2_with fail
    refine HGR.out.mono ?_
    rintro e1 w8 ⟨rfl, hb8⟩
    have hN8 := (hb8.block wr.heap.size (Array.getElem?_eq_some_iff.1 HN6.out).1).trans HN6.out
    have hb8' := HB6.out.trans (hb8.mono HB6.out.size)
    clear hb8 HGR cj HN6 HT7
    simp only [Rc.val]
    go_upto_region 7 with fail
    have hX : (w8.alloc (.cells #[.int .i64 r'.k, .int .i64 r'.o, .int .i64 r'.s, .int .i64 r'.r, .int .i64 r'.e, .int .i64 r'.t] 65)).heap[w8.heap.size]? = some (.cells #[.int .i64 r'.k, .int .i64 r'.o, .int .i64 r'.s, .int .i64 r'.r, .int .i64 r'.e, .int .i64 r'.t] 65 (0, 0)) := heap_alloc_new _ _
    have hN9 := (Below.heap_alloc w8 (.cells #[.int .i64 r'.k, .int .i64 r'.o, .int .i64 r'.s, .int .i64 r'.r, .int .i64 r'.e, .int .i64 r'.t] 65) wr.heap.size (Array.getElem?_eq_some_iff.1 hN8).1).trans hN8
    have hb9 := hb8'.alloc hb8'.size (.cells #[.int .i64 r'.k, .int .i64 r'.o, .int .i64 r'.s, .int .i64 r'.r, .int .i64 r'.e, .int .i64 r'.t] 65)
    have hq9 := (hb9.block n2 (Array.getElem?_eq_some_iff.1 HN2.out).1).trans HN2.out
    have hne : wr.heap.size ≠ w8.heap.size := by have := (Array.getElem?_eq_some_iff.1 hN8).1; omega
    have hge : wr.heap.size ≤ w8.heap.size := hb8'.size
    clear hb8' hN8
    generalize w8.alloc (.cells #[.int .i64 r'.k, .int .i64 r'.o, .int .i64 r'.s, .int .i64 r'.r, .int .i64 r'.e, .int .i64 r'.t] 65) = w9 at *
    generalize w8.heap.size = n8 at *
    obtain ⟨-, -, -, -, d4, d5, -, -, -, -, f4, f5⟩ := blk6 hX
    obtain ⟨e0, e1, -, -⟩ := blk2 hq9
    go_upto_region 8 with fail
    have hX2 := set2 hX (.int .i64 r0.e) (.int .i64 r0.t)
    have hN10 : ((w9.setCell ⟨n8, 4, none⟩ (.int .i64 r0.e)).setCell ⟨n8, 5, none⟩ (.int .i64 r0.t)).heap[wr.heap.size]? = some (.cells #[.int .i64 (pi : Int), .int .i64 (pj : Int)] 48 (0, 0)) :=
      ((heap_setCell_other _ _ _ _ hne).trans (heap_setCell_other _ _ _ _ hne)).trans hN9
    have hb10 := (hb9.setCell (p := ⟨n8, 4, none⟩) hge (.int .i64 r0.e)).setCell (p := ⟨n8, 5, none⟩) hge (.int .i64 r0.t)
    clear hb9 hX hN9 hq9 d4 d5 f4 f5 e0 e1
    generalize (w9.setCell ⟨n8, 4, none⟩ (.int .i64 r0.e)).setCell ⟨n8, 5, none⟩ (.int .i64 r0.t) = w10 at *
    have HS := hide (setR_some w10 (fs pi) b l (HTL.out.below hb10) pj r' (rq r0.e r0.t r') H4.out)
    have HA10 := hide (HA.out.keep hb10.size (fun x hx => hb10.block x (HA.out.lt x hx)))
    have HE10 := hide (K2.out.trans (Ext.of_below hb10))
    obtain ⟨d0, d1, d2, d3, d4, d5, -, -, -, -, -, -⟩ := blk6 hX2
    obtain ⟨-, cj, -, -⟩ := blk2 hN10
    simp only [Rc.val, rq] at HS
    clear hb10 hX2 hN10 HTL HA K2 K3 HN2
    go_wp2_with fail
    refine HS.out.mono ?_
    rintro e1 w11 ⟨rfl, hT11, hE11⟩
    have L1 := hide (HA10.out.upd0 HM.out (l' := l.set pj (some (rq r0.e r0.t r'))) (by rw [List.length_set]; exact H48.out) hT11 hE11)
    have L2 := hide (HE10.out.trans L1.out.2)
    have L3 : Hid (Book w11 F B (setAt bk' pi pj (some (rq r0.e r0.t r')))) := by
      show Book _ _ _ _
      unfold setAt
      rw [HLF.out]
      exact L1.out.1
    clear hT11 hE11 HS HA10 HE10 d0 d1 d2 d3 d4 d5 cj L1
    go_wp2
    go_roundw
    case rel =>
      first
        | exact ⟨k + 1, _, by omega, by go_num, L3, L2, HNext⟩
        | ((repeat apply Exists.intro); refine ⟨?_, rfl⟩; exact ⟨k + 1, _, by omega, by go_num, L3, L2, HNext⟩)
    case measure => simp [intOf]; omega
  · have hd : decide ((k : Int) < (ps.length : Int)) = false := by simp; omega
    have hd2 : decide (k < ps.length) = false := by simp; omega
    have K4 : Hid (RelK ps r0.e r0.t ps.length bk1 bk') := by
      have e : k = ps.length := by omega
      have h9 := K3.out
      rw [e] at h9
      exact h9
    go_wp2
    go_end0
    exact ⟨rfl, bk', K1.out, (Ext.of_below (by rw [hn]; exact HB0.out)).trans (HE5.out.trans K2.out), HDone.out bk' K4.out⟩
end Go.Proofs.YteacmcdmdeckmaaGreat
