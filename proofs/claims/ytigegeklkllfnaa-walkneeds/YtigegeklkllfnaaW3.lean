import Derived.Test.YtigegeklkllfnaaW2
namespace Go.Proofs.Ytigegeklkllfnaa
open Go.ChangeShapes Go.WideShapes Go.ChangeAt Go.RowKit Go.Deep

/-- the boxes that the law begins with -/
def lawB (w : World) (q : Qt) : World := (w.alloc (.cells #[.int .i64 q.f, .int .i64 q.e, .int .i64 q.x] 23)).alloc (.cells #[nl, nl, nl, nl, nl] 30)
theorem lawB_st (w : World) (q : Qt) : St w w.heap.size q 0 0 q.f nl nl (lawB w q) := by
  refine ⟨?_, ?_, ⟨[], World.ownsRow_nil _ _ _ _, fun h => by omega⟩, ⟨[], World.ownsRow_nil _ _ _ _⟩, fun b hb => by simp [nl, Value.ownBlock] at hb, ((Below.refl w.heap.size w).alloc (Nat.le_refl _) _).alloc (by simp) _, fun _ => rfl⟩
  · unfold lawB
    rw [heap_alloc_old _ _ (by simp)]
    exact heap_alloc_new _ _
  · have h := heap_alloc_new (w.alloc (.cells #[.int .i64 q.f, .int .i64 q.e, .int .i64 q.x] 23)) (.cells #[nl, nl, nl, nl, nl] 30)
    have e : (w.alloc (.cells #[.int .i64 q.f, .int .i64 q.e, .int .i64 q.x] 23)).heap.size = w.heap.size + 1 := by simp
    rw [e] at h
    exact h
set_option maxRecDepth 20000 in
set_option maxHeartbeats 6400000 in
theorem needs_walk (q : Qt) (en pg : Int) (w : World) : Calls Try.prog 3 #[.agg #[.int .i64 q.f, .int .i64 q.e, .int .i64 q.x], .int .i64 en, .int .i64 pg] w fun x w' => x = .returned (.bool true) ∧ Below w.heap.size w w' := by
  have HS := hide (lawB_st w q)
  obtain ⟨iE, zE, hi, hz, hs, hb, hzs⟩ := infoEnv
  obtain ⟨iP, zP, pi, pz, ps, pb, pzs⟩ := infoPg
  obtain ⟨N, hN⟩ : ∃ N, N = w.heap.size := ⟨_, rfl⟩
  rw [← hN] at HS
  have HN := hide hN
  go_enter Try.func3, Try.ntmps3
  go_upto_region 3 with fail
  show Code.wp _ _ _ _ (lawB w q)
  generalize lawB w q = w1 at *
  simp only [← hN]
  clear hN
  go_loopw [8] (fun x wr => ∃ j : Nat, j ≤ 20 ∧ x = .int .i64 (j : Int) ∧ ∃ f v0, Hid (St w N q j 0 f v0 nl wr)) (fun x _ => 20 - (intOf x).toNat)
  case atStart => exact ⟨0, by omega, rfl, q.f, nl, HS⟩
  case round =>
  clear HS
  obtain ⟨j, hj, rfl, f, v0, KS⟩ := hrel
  obtain ⟨xs, hx0, hxq⟩ := KS.out.es
  obtain ⟨a, c, rfl⟩ := own_shape hx0
  have HX := hide hx0
  have HXq := hide hxq
  have HXl := hide hx0.1
  have HSz := hide KS.out.sz
  clear hx0 hxq
  have f0 := KS.out.fcell.1
  by_cases hc : (j : Int) < en ∧ j < 20
  · have e1 : decide ((j : Int) < en) = true := by simp; exact hc.1
    have e2 : decide ((j : Int) < 20) = true := by simp; omega
    have hj2 := hc.2
    have hj3 : (j : Int) < en := hc.1
    have hj4 : (j : Int) < 20 := by omega
    clear hc
    obtain ⟨r0, r1, r2, z0, z1, z2⟩ := blk3 KS.out.qb
    go_upto_region 6 with (at_builtin; refine wpList_append_own_at _ rfl _ _ 24 rfl (N + 2) 36 iE zE 17 96 Try.underlying24 hi hz hs hb hzs (by decide) (.slice a j c) j xs rfl (HX.out.alloc _) ⟨wr.heap.size, 0, none⟩ 1 1 (envL f q.e q.x) rfl rfl (cells_new _ _ _) (by simp [envL, Value.oneCell']) (by unfold maxLen; omega) (by omega) (by have := HSz.out; simp; omega) ?_; intro v2 w2 ho2 hg2 _ hv2; obtain ⟨gg, cp, rfl⟩ := own_shape ho2; obtain ⟨g1, g2, _, _⟩ := KS.out.grow _ (.inl rfl) hg2; have k0 : w2.cell? ⟨N + 1, 0, none⟩ = some (.slice a j c) := cell_of_row _ _ 0 _ _ _ g2; have k1 := frozen_of_row _ _ 0 _ _ g2; clear g1 g2)
    clear r0 r1 r2 z0 z1 z2 f0
    have HS2 := hide (fun f2 : Int => KS.out.env _ HXq.out HXl.out ho2 hg2 hv2 f2)
    have q0 := (KS.out.grow _ (.inl rfl) hg2).1
    have q1 : (w2.setCell ⟨N + 1, 0, none⟩ (.slice gg (j + 1) cp)).heap[N]? = _ := (heap_setCell_other _ _ _ _ (by show N ≠ N + 1; omega)).trans q0
    obtain ⟨r0, r1, r2, z0, z1, z2⟩ := blk3 q1
    clear hg2 ho2 hv2 q0 q1 KS HX HXq HXl HSz
    go_wp2
    go_roundw
    case rel =>
      first
        | exact ⟨j + 1, by omega, by go_num, _, _, hide (HS2.out _)⟩
        | ((repeat apply Exists.intro); refine ⟨?_, rfl⟩; exact ⟨j + 1, by omega, by go_num, _, _, hide (HS2.out _)⟩)
    case measure => simp [intOf]; omega
  · clear HX HXq HXl HSz f0
    by_cases hce : (j : Int) < en
    · have e1 : decide ((j : Int) < en) = true := by simp; exact hce
      have e2 : decide ((j : Int) < 20) = false := by simp; omega
      have hj4 : ¬ (j : Int) < 20 := by omega
      clear hc
      go_upto_region 8 with fail
      go_loopw [9] (fun x wr => ∃ k : Nat, k ≤ 70 ∧ x = .int .i64 (k : Int) ∧ ∃ v3, Hid (St w N q j k f (.slice a j c) v3 wr)) (fun x _ => 70 - (intOf x).toNat)
      case atStart => exact ⟨0, by omega, rfl, nl, KS⟩
      case round =>
      clear KS e1 e2
      obtain ⟨k, hk, rfl, v3, KS⟩ := hrel
      obtain ⟨ys, hy0⟩ := KS.out.ps
      obtain ⟨b, d, rfl⟩ := own_shape hy0
      have HY := hide hy0
      have HSz := hide KS.out.sz
      have f3 := KS.out.fcell.2.2.2.1
      clear hy0
      by_cases hc : (k : Int) < pg ∧ k < 70
      · have e1 : decide ((k : Int) < pg) = true := by simp; exact hc.1
        have e2 : decide ((k : Int) < 70) = true := by simp; omega
        have hj2 := hc.2
        have hj3 : (k : Int) < pg := hc.1
        have hj4 : (k : Int) < 70 := by omega
        clear hc
        go_upto_region 9 with (at_builtin; refine wpList_append_own_at _ rfl _ _ 27 rfl (N + 2) 38 iP zP 32 128 Try.underlying27 pi pz ps pb pzs (by decide) (.slice b k d) k ys rfl (HY.out.alloc _) ⟨wr.heap.size, 0, none⟩ 1 1 pgL rfl rfl (cells_new _ _ _) (by simp [pgL, Value.oneCell']) (by unfold maxLen; omega) (by omega) (by have := HSz.out; simp; omega) ?_; intro v2 w2 ho2 hg2 _ hv2; obtain ⟨gg, cp, rfl⟩ := own_shape ho2; obtain ⟨g1, g2, _, _⟩ := KS.out.grow _ (.inr rfl) hg2; have k0 : w2.cell? ⟨N + 1, 3, none⟩ = some (.slice b k d) := cell_of_row _ _ 3 _ _ _ g2; have k1 := frozen_of_row _ _ 3 _ _ g2; clear g1 g2)
        have HS2 := hide (KS.out.pg _ ho2 hg2 hv2)
        clear hg2 ho2 hv2 KS HY HSz f3
        go_wp2
        go_roundw
        case rel =>
          first
            | exact ⟨k + 1, by omega, by go_num, _, HS2⟩
            | ((repeat apply Exists.intro); refine ⟨?_, rfl⟩; exact ⟨k + 1, by omega, by go_num, _, HS2⟩)
        case measure => simp [intOf]; omega
      · clear HY HSz f3
        by_cases hce : (k : Int) < pg
        · have e1 : decide ((k : Int) < pg) = true := by simp; exact hce
          have e2 : decide ((k : Int) < 70) = false := by simp; omega
          have hj4 : ¬ (k : Int) < 70 := by omega
          clear hc
          go_upto_region 11 with fail
          have hj20 : j ≤ 20 := hj
          obtain ⟨f0, f1, f2, f3, f4⟩ := KS.out.fcell
          have HF := hide (KS.out.fq rfl)
          have HNe := hide (need_any wr a b j c k d q hj hk HF.out)
          clear e1 e2
          go_wp2_with fail
          refine HNe.out.mono ?_
          rintro x1 w2 ⟨rfl, hb2⟩
          have hb3 := hb2.trans ((fresh3_below w2 (nd q j k)).mono hb2.size)
          have HB3 := hide (KS.out.bel.trans (hb3.mono (by have := KS.out.sz; omega)))
          have HA3 := hide (fresh3_at w2 (nd q j k))
          have HF3 := hide ((hb3.block (N + 1) (by have := KS.out.sz; omega)).trans KS.out.fb)
          have HQ3 := hide (HF.out.below hb3)
          clear f0 f1 f2 f3 f4 hb2 hb3 HNe KS HF
          go_upto_region 12 with fail
          show Code.wp _ _ _ _ (fresh3 w2 (nd q j k))
          generalize fresh3 w2 (nd q j k) = w3 at *
          generalize w2.heap.size = M at *
          have f0 : w3.cell? ⟨N + 1, 0, none⟩ = some (.slice a j c) := by rw [cell_of_row _ _ _ _ _ _ HF3.out]; rfl
          have f1 : w3.cell? ⟨N + 1, 1, none⟩ = some nl := by rw [cell_of_row _ _ _ _ _ _ HF3.out]; rfl
          have f2 : w3.cell? ⟨N + 1, 2, none⟩ = some nl := by rw [cell_of_row _ _ _ _ _ _ HF3.out]; rfl
          have f3 : w3.cell? ⟨N + 1, 3, none⟩ = some (.slice b k d) := by rw [cell_of_row _ _ _ _ _ _ HF3.out]; rfl
          have f4 : w3.cell? ⟨N + 1, 4, none⟩ = some nl := by rw [cell_of_row _ _ _ _ _ _ HF3.out]; rfl
          have HNe := hide (needR_any w3 a b j c k d q hj hk HQ3.out)
          go_wp2_with fail
          refine HNe.out.mono ?_
          rintro x1 w4 ⟨rfl, hb4⟩
          have hb5 := hb4.trans ((fresh3_below w4 (nd q j k)).mono hb4.size)
          have HB5 := hide (HB3.out.trans (hb5.mono (by have := (Array.getElem?_eq_some_iff.1 HF3.out).1; omega)))
          have HA5 := hide ((hb5.block M (Array.getElem?_eq_some_iff.1 HA3.out).1).trans HA3.out)
          have HD5 := hide (fresh3_at w4 (nd q j k))
          clear f0 f1 f2 f3 f4 hb4 hb5 HNe HF3 HQ3 HA3 HB3
          go_upto_region 13 with fail
          show Code.wp _ _ _ _ (fresh3 w4 (nd q j k))
          generalize fresh3 w4 (nd q j k) = w5 at *
          generalize w4.heap.size = M' at *
          generalize nd q j k = r at *
          generalize ns j k = y at *
          obtain ⟨r0, r1, r2, z0, z1, z2⟩ := blk3 HA5.out
          obtain ⟨s0, s1, s2, y0, y1, y2⟩ := blk3 HD5.out
          clear z0 z1 z2 y0 y1 y2
          go_wp2
          go_ret
          exact ⟨by simp, by rw [← HN.out]; exact HB5.out⟩
        · have e1 : decide ((k : Int) < pg) = false := by simp; omega
          have e2 := True.intro
          clear hc
          go_upto_region 11 with fail
          have hj20 : j ≤ 20 := hj
          obtain ⟨f0, f1, f2, f3, f4⟩ := KS.out.fcell
          have HF := hide (KS.out.fq rfl)
          have HNe := hide (need_any wr a b j c k d q hj hk HF.out)
          clear e1 e2
          go_wp2_with fail
          refine HNe.out.mono ?_
          rintro x1 w2 ⟨rfl, hb2⟩
          have hb3 := hb2.trans ((fresh3_below w2 (nd q j k)).mono hb2.size)
          have HB3 := hide (KS.out.bel.trans (hb3.mono (by have := KS.out.sz; omega)))
          have HA3 := hide (fresh3_at w2 (nd q j k))
          have HF3 := hide ((hb3.block (N + 1) (by have := KS.out.sz; omega)).trans KS.out.fb)
          have HQ3 := hide (HF.out.below hb3)
          clear f0 f1 f2 f3 f4 hb2 hb3 HNe KS HF
          go_upto_region 12 with fail
          show Code.wp _ _ _ _ (fresh3 w2 (nd q j k))
          generalize fresh3 w2 (nd q j k) = w3 at *
          generalize w2.heap.size = M at *
          have f0 : w3.cell? ⟨N + 1, 0, none⟩ = some (.slice a j c) := by rw [cell_of_row _ _ _ _ _ _ HF3.out]; rfl
          have f1 : w3.cell? ⟨N + 1, 1, none⟩ = some nl := by rw [cell_of_row _ _ _ _ _ _ HF3.out]; rfl
          have f2 : w3.cell? ⟨N + 1, 2, none⟩ = some nl := by rw [cell_of_row _ _ _ _ _ _ HF3.out]; rfl
          have f3 : w3.cell? ⟨N + 1, 3, none⟩ = some (.slice b k d) := by rw [cell_of_row _ _ _ _ _ _ HF3.out]; rfl
          have f4 : w3.cell? ⟨N + 1, 4, none⟩ = some nl := by rw [cell_of_row _ _ _ _ _ _ HF3.out]; rfl
          have HNe := hide (needR_any w3 a b j c k d q hj hk HQ3.out)
          go_wp2_with fail
          refine HNe.out.mono ?_
          rintro x1 w4 ⟨rfl, hb4⟩
          have hb5 := hb4.trans ((fresh3_below w4 (nd q j k)).mono hb4.size)
          have HB5 := hide (HB3.out.trans (hb5.mono (by have := (Array.getElem?_eq_some_iff.1 HF3.out).1; omega)))
          have HA5 := hide ((hb5.block M (Array.getElem?_eq_some_iff.1 HA3.out).1).trans HA3.out)
          have HD5 := hide (fresh3_at w4 (nd q j k))
          clear f0 f1 f2 f3 f4 hb4 hb5 HNe HF3 HQ3 HA3 HB3
          go_upto_region 13 with fail
          show Code.wp _ _ _ _ (fresh3 w4 (nd q j k))
          generalize fresh3 w4 (nd q j k) = w5 at *
          generalize w4.heap.size = M' at *
          generalize nd q j k = r at *
          generalize ns j k = y at *
          obtain ⟨r0, r1, r2, z0, z1, z2⟩ := blk3 HA5.out
          obtain ⟨s0, s1, s2, y0, y1, y2⟩ := blk3 HD5.out
          clear z0 z1 z2 y0 y1 y2
          go_wp2
          go_ret
          exact ⟨by simp, by rw [← HN.out]; exact HB5.out⟩
    · have e1 : decide ((j : Int) < en) = false := by simp; omega
      have e2 := True.intro
      clear hc
      go_upto_region 8 with fail
      go_loopw [9] (fun x wr => ∃ k : Nat, k ≤ 70 ∧ x = .int .i64 (k : Int) ∧ ∃ v3, Hid (St w N q j k f (.slice a j c) v3 wr)) (fun x _ => 70 - (intOf x).toNat)
      case atStart => exact ⟨0, by omega, rfl, nl, KS⟩
      case round =>
      clear KS e1 e2
      obtain ⟨k, hk, rfl, v3, KS⟩ := hrel
      obtain ⟨ys, hy0⟩ := KS.out.ps
      obtain ⟨b, d, rfl⟩ := own_shape hy0
      have HY := hide hy0
      have HSz := hide KS.out.sz
      have f3 := KS.out.fcell.2.2.2.1
      clear hy0
      by_cases hc : (k : Int) < pg ∧ k < 70
      · have e1 : decide ((k : Int) < pg) = true := by simp; exact hc.1
        have e2 : decide ((k : Int) < 70) = true := by simp; omega
        have hj2 := hc.2
        have hj3 : (k : Int) < pg := hc.1
        have hj4 : (k : Int) < 70 := by omega
        clear hc
        go_upto_region 9 with (at_builtin; refine wpList_append_own_at _ rfl _ _ 27 rfl (N + 2) 38 iP zP 32 128 Try.underlying27 pi pz ps pb pzs (by decide) (.slice b k d) k ys rfl (HY.out.alloc _) ⟨wr.heap.size, 0, none⟩ 1 1 pgL rfl rfl (cells_new _ _ _) (by simp [pgL, Value.oneCell']) (by unfold maxLen; omega) (by omega) (by have := HSz.out; simp; omega) ?_; intro v2 w2 ho2 hg2 _ hv2; obtain ⟨gg, cp, rfl⟩ := own_shape ho2; obtain ⟨g1, g2, _, _⟩ := KS.out.grow _ (.inr rfl) hg2; have k0 : w2.cell? ⟨N + 1, 3, none⟩ = some (.slice b k d) := cell_of_row _ _ 3 _ _ _ g2; have k1 := frozen_of_row _ _ 3 _ _ g2; clear g1 g2)
        have HS2 := hide (KS.out.pg _ ho2 hg2 hv2)
        clear hg2 ho2 hv2 KS HY HSz f3
        go_wp2
        go_roundw
        case rel =>
          first
            | exact ⟨k + 1, by omega, by go_num, _, HS2⟩
            | ((repeat apply Exists.intro); refine ⟨?_, rfl⟩; exact ⟨k + 1, by omega, by go_num, _, HS2⟩)
        case measure => simp [intOf]; omega
      · clear HY HSz f3
        by_cases hce : (k : Int) < pg
        · have e1 : decide ((k : Int) < pg) = true := by simp; exact hce
          have e2 : decide ((k : Int) < 70) = false := by simp; omega
          have hj4 : ¬ (k : Int) < 70 := by omega
          clear hc
          go_upto_region 11 with fail
          have hj20 : j ≤ 20 := hj
          obtain ⟨f0, f1, f2, f3, f4⟩ := KS.out.fcell
          have HF := hide (KS.out.fq rfl)
          have HNe := hide (need_any wr a b j c k d q hj hk HF.out)
          clear e1 e2
          go_wp2_with fail
          refine HNe.out.mono ?_
          rintro x1 w2 ⟨rfl, hb2⟩
          have hb3 := hb2.trans ((fresh3_below w2 (nd q j k)).mono hb2.size)
          have HB3 := hide (KS.out.bel.trans (hb3.mono (by have := KS.out.sz; omega)))
          have HA3 := hide (fresh3_at w2 (nd q j k))
          have HF3 := hide ((hb3.block (N + 1) (by have := KS.out.sz; omega)).trans KS.out.fb)
          have HQ3 := hide (HF.out.below hb3)
          clear f0 f1 f2 f3 f4 hb2 hb3 HNe KS HF
          go_upto_region 12 with fail
          show Code.wp _ _ _ _ (fresh3 w2 (nd q j k))
          generalize fresh3 w2 (nd q j k) = w3 at *
          generalize w2.heap.size = M at *
          have f0 : w3.cell? ⟨N + 1, 0, none⟩ = some (.slice a j c) := by rw [cell_of_row _ _ _ _ _ _ HF3.out]; rfl
          have f1 : w3.cell? ⟨N + 1, 1, none⟩ = some nl := by rw [cell_of_row _ _ _ _ _ _ HF3.out]; rfl
          have f2 : w3.cell? ⟨N + 1, 2, none⟩ = some nl := by rw [cell_of_row _ _ _ _ _ _ HF3.out]; rfl
          have f3 : w3.cell? ⟨N + 1, 3, none⟩ = some (.slice b k d) := by rw [cell_of_row _ _ _ _ _ _ HF3.out]; rfl
          have f4 : w3.cell? ⟨N + 1, 4, none⟩ = some nl := by rw [cell_of_row _ _ _ _ _ _ HF3.out]; rfl
          have HNe := hide (needR_any w3 a b j c k d q hj hk HQ3.out)
          go_wp2_with fail
          refine HNe.out.mono ?_
          rintro x1 w4 ⟨rfl, hb4⟩
          have hb5 := hb4.trans ((fresh3_below w4 (nd q j k)).mono hb4.size)
          have HB5 := hide (HB3.out.trans (hb5.mono (by have := (Array.getElem?_eq_some_iff.1 HF3.out).1; omega)))
          have HA5 := hide ((hb5.block M (Array.getElem?_eq_some_iff.1 HA3.out).1).trans HA3.out)
          have HD5 := hide (fresh3_at w4 (nd q j k))
          clear f0 f1 f2 f3 f4 hb4 hb5 HNe HF3 HQ3 HA3 HB3
          go_upto_region 13 with fail
          show Code.wp _ _ _ _ (fresh3 w4 (nd q j k))
          generalize fresh3 w4 (nd q j k) = w5 at *
          generalize w4.heap.size = M' at *
          generalize nd q j k = r at *
          generalize ns j k = y at *
          obtain ⟨r0, r1, r2, z0, z1, z2⟩ := blk3 HA5.out
          obtain ⟨s0, s1, s2, y0, y1, y2⟩ := blk3 HD5.out
          clear z0 z1 z2 y0 y1 y2
          go_wp2
          go_ret
          exact ⟨by simp, by rw [← HN.out]; exact HB5.out⟩
        · have e1 : decide ((k : Int) < pg) = false := by simp; omega
          have e2 := True.intro
          clear hc
          go_upto_region 11 with fail
          have hj20 : j ≤ 20 := hj
          obtain ⟨f0, f1, f2, f3, f4⟩ := KS.out.fcell
          have HF := hide (KS.out.fq rfl)
          have HNe := hide (need_any wr a b j c k d q hj hk HF.out)
          clear e1 e2
          go_wp2_with fail
          refine HNe.out.mono ?_
          rintro x1 w2 ⟨rfl, hb2⟩
          have hb3 := hb2.trans ((fresh3_below w2 (nd q j k)).mono hb2.size)
          have HB3 := hide (KS.out.bel.trans (hb3.mono (by have := KS.out.sz; omega)))
          have HA3 := hide (fresh3_at w2 (nd q j k))
          have HF3 := hide ((hb3.block (N + 1) (by have := KS.out.sz; omega)).trans KS.out.fb)
          have HQ3 := hide (HF.out.below hb3)
          clear f0 f1 f2 f3 f4 hb2 hb3 HNe KS HF
          go_upto_region 12 with fail
          show Code.wp _ _ _ _ (fresh3 w2 (nd q j k))
          generalize fresh3 w2 (nd q j k) = w3 at *
          generalize w2.heap.size = M at *
          have f0 : w3.cell? ⟨N + 1, 0, none⟩ = some (.slice a j c) := by rw [cell_of_row _ _ _ _ _ _ HF3.out]; rfl
          have f1 : w3.cell? ⟨N + 1, 1, none⟩ = some nl := by rw [cell_of_row _ _ _ _ _ _ HF3.out]; rfl
          have f2 : w3.cell? ⟨N + 1, 2, none⟩ = some nl := by rw [cell_of_row _ _ _ _ _ _ HF3.out]; rfl
          have f3 : w3.cell? ⟨N + 1, 3, none⟩ = some (.slice b k d) := by rw [cell_of_row _ _ _ _ _ _ HF3.out]; rfl
          have f4 : w3.cell? ⟨N + 1, 4, none⟩ = some nl := by rw [cell_of_row _ _ _ _ _ _ HF3.out]; rfl
          have HNe := hide (needR_any w3 a b j c k d q hj hk HQ3.out)
          go_wp2_with fail
          refine HNe.out.mono ?_
          rintro x1 w4 ⟨rfl, hb4⟩
          have hb5 := hb4.trans ((fresh3_below w4 (nd q j k)).mono hb4.size)
          have HB5 := hide (HB3.out.trans (hb5.mono (by have := (Array.getElem?_eq_some_iff.1 HF3.out).1; omega)))
          have HA5 := hide ((hb5.block M (Array.getElem?_eq_some_iff.1 HA3.out).1).trans HA3.out)
          have HD5 := hide (fresh3_at w4 (nd q j k))
          clear f0 f1 f2 f3 f4 hb4 hb5 HNe HF3 HQ3 HA3 HB3
          go_upto_region 13 with fail
          show Code.wp _ _ _ _ (fresh3 w4 (nd q j k))
          generalize fresh3 w4 (nd q j k) = w5 at *
          generalize w4.heap.size = M' at *
          generalize nd q j k = r at *
          generalize ns j k = y at *
          obtain ⟨r0, r1, r2, z0, z1, z2⟩ := blk3 HA5.out
          obtain ⟨s0, s1, s2, y0, y1, y2⟩ := blk3 HD5.out
          clear z0 z1 z2 y0 y1 y2
          go_wp2
          go_ret
          exact ⟨by simp, by rw [← HN.out]; exact HB5.out⟩
end Go.Proofs.Ytigegeklkllfnaa
