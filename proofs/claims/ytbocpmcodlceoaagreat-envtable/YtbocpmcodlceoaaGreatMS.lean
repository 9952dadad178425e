import Derived.Test.YtbocpmcodlceoaaGreatMR
namespace Go.Proofs.YtbocpmcodlceoaaGreat
open Go.ChangeShapes Go.WideShapes Go.ChangeAt Go.RowKit Go.Deep Go.Shelf

theorem first_at {s : Int} {q : Qt} {i : Nat} {r : Er} (h : ((List.replicate 16 none).set 0 (some (Er.new s (-1) q)))[i]? = some (some r)) : i = 0 ∧ r = Er.new s (-1) q := by
  rw [List.getElem?_set] at h
  split at h
  · rename_i e
    subst e
    simp at h
    exact ⟨rfl, h.symm⟩
  · rw [List.getElem?_replicate] at h
    split at h <;> cases h
theorem pt_pt (n : Int) : pt (pt n) = pt n := by unfold pt; omega
theorem pt_nn (n : Int) : 0 ≤ pt n := by unfold pt; omega
theorem iv_first (s : Int) (q : Qt) : Iv ((List.replicate 16 none).set 0 (some (Er.new s (-1) q.bnd))) s := by
  have h00 : ((List.replicate 16 none).set 0 (some (Er.new s (-1) q.bnd)))[0]? = some (some (Er.new s (-1) q.bnd)) := by simp
  refine ⟨⟨by simp, ⟨_, h00, rfl⟩, fun k r hr h0 => absurd (first_at hr).1 h0, fun k ⟨r, hr⟩ => ?_, fun a b ⟨ra, h1⟩ ⟨rb, h2⟩ _ => by rw [(first_at h1).1, (first_at h2).1]⟩, fun k r hr => ?_⟩
  · rw [ser_at hr, (first_at hr).2]
    exact Int.le_refl _
  · obtain ⟨rfl, rfl⟩ := first_at hr
    have hk : ∀ i : Nat, kid ((List.replicate 16 none).set 0 (some (Er.new s (-1) q.bnd))) ((0 : Nat) : Int) i = false := fun i => by
      cases hq : kid ((List.replicate 16 none).set 0 (some (Er.new s (-1) q.bnd))) ((0 : Nat) : Int) i with
      | false => rfl
      | true =>
        obtain ⟨r, h1, h2⟩ := kid_of hq
        rw [(first_at h1).2] at h2
        exact absurd (show (-1 : Int) = 0 from h2) (by decide)
    have ht : ∀ f : Qt → Int, tot (tm f ((List.replicate 16 none).set 0 (some (Er.new s (-1) q.bnd))) 0) = 0 := fun f => by
      have h1 : tm f ((List.replicate 16 none).set 0 (some (Er.new s (-1) q.bnd))) 0 = fun _ => 0 := by
        funext i
        unfold tm
        rw [hk i]
        rfl
      rw [h1]
      decide
    refine ⟨⟨pt_pt _, pt_pt _, pt_pt _⟩, ⟨Int.le_refl _, Int.le_refl _, Int.le_refl _⟩, ⟨pt_nn _, pt_nn _, pt_nn _⟩, ?_⟩
    unfold cv
    rw [ht, ht, ht]
    show q.bnd = (Qt.zero.plus q.bnd).plus ⟨0, 0, 0⟩
    unfold Qt.plus Qt.zero Qt.bnd
    simp
theorem wd_first (s : Int) (q : Qt) : Wd ((List.replicate 16 none).set 0 (some (Er.new s (-1) q.bnd))) := fun k r hr => by
  rw [(first_at hr).2]
  exact (show (0 : Int) ≤ 0 ∧ (0 : Int) ≤ 4294967295 from ⟨by decide, by decide⟩)
theorem infoPr : (Tryz.prog.info? 27).map (·.size) = some 2 := by kernel_rfl
set_option maxRecDepth 8000 in
set_option maxHeartbeats 3200000 in
theorem made_any (w : World) (s : Int) (q : Qt) : Calls Tryz.prog 5 #[.int .i64 s, q.val] w fun x w' => ∃ T R F, x = .returned (.agg #[tp T, tp R]) ∧ PrA T R w' F ∧ (∀ b, F b → w.heap.size ≤ b) ∧ Below w.heap.size w w' := by
  have hb1 := (Below.refl w.heap.size w).alloc (Nat.le_refl _) (.cells #[.int .i64 q.f, .int .i64 q.e, .int .i64 q.x] 30)
  have hb2 := hb1.alloc hb1.size (.cells #[.pointer none, .pointer none] 27)
  have hx1 := heap_alloc_new w (.cells #[.int .i64 q.f, .int .i64 q.e, .int .i64 q.x] 30)
  have hp2 := heap_alloc_new (w.alloc (.cells #[.int .i64 q.f, .int .i64 q.e, .int .i64 q.x] 30)) (.cells #[.pointer none, .pointer none] 27)
  have e2 : (w.alloc (.cells #[.int .i64 q.f, .int .i64 q.e, .int .i64 q.x] 30)).heap.size = w.heap.size + 1 := by simp
  rw [e2] at hp2
  have hx2 := (Below.heap_alloc _ (.cells #[.pointer none, .pointer none] 27) w.heap.size (by rw [e2]; omega)).trans hx1
  have HB2 := hide hb2
  have HX2 := hide hx2
  have HA2 := hide hp2
  clear hb1 hb2 hx1 hp2 e2 hx2
  unfold Qt.val
  go_enter Tryz.func5, Tryz.ntmps5
  go_upto_region 1 with fail
  show Code.wp _ _ _ _ ((w.alloc (.cells #[.int .i64 q.f, .int .i64 q.e, .int .i64 q.x] 30)).alloc (.cells #[.pointer none, .pointer none] 27))
  generalize (w.alloc (.cells #[.int .i64 q.f, .int .i64 q.e, .int .i64 q.x] 30)).alloc (.cells #[.pointer none, .pointer none] 27) = w2 at *
  obtain ⟨B, hB⟩ : ∃ B, w.heap.size = B := ⟨_, rfl⟩
  obtain ⟨A, hA⟩ : ∃ A, w.heap.size + 1 = A := ⟨_, rfl⟩
  rw [hA] at HA2 ⊢
  rw [hB] at HX2 ⊢
  have HAw : Hid (w.heap.size ≤ A) := hide (by omega)
  have HBA : Hid (B ≠ A) := hide (by omega)
  clear hB hA
  refine wp_region_held_drew (S := fun W : World => W.heap[B]? = some (.cells #[.int .i64 q.f, .int .i64 q.e, .int .i64 q.x] 30 (0, 0))) (by kernel_rfl) HX2.out (fun _ => ?_)
  generalize hw3 : w2.drew = w3
  have hb3 : Below w2.heap.size w2 w3 := by rw [← hw3]; exact below_drew _
  have HX3 : Hid (w3.heap[B]? = some (.cells #[.int .i64 q.f, .int .i64 q.e, .int .i64 q.x] 30 (0, 0))) := hide (by rw [← hw3]; exact HX2.out)
  have HA3 := hide ((hb3.block A (Array.getElem?_eq_some_iff.1 HA2.out).1).trans HA2.out)
  have HB3 := hide (HB2.out.trans (hb3.mono HB2.out.size))
  clear hw3 hb3 HX2 HA2 HB2
  refine hd_take 0 (o := ⟨some 5, _, _, _, _, _⟩) (.int .i64 s) (by kernel_rfl) (by kernel_rfl) (by kernel_rfl) rfl (by rfl) (fun W hSw => by go_simp) (fun _ _ _ h => h) HX3.out ?_
  simp only [Act.put, List.setIfInBounds_toArray, List.set_cons_zero, List.set_cons_succ]
  refine hd_take 1 (o := ⟨some 6, _, _, _, _, _⟩) (q.val) (by kernel_rfl) (by kernel_rfl) (by kernel_rfl) rfl (by rfl) (fun W hSw => by exact run_loadT Tryz.underlying30 rfl (qtL q) infoQ _ rfl ⟨B, 0, none⟩ rfl (row_cells hSw)) (fun _ _ _ h => h) HX3.out ?_
  simp only [Act.put, List.setIfInBounds_toArray, List.set_cons_zero, List.set_cons_succ]
  refine hd_take 3 (o := ⟨some 8, _, _, _, _, _⟩) (.int .i64 s) (by kernel_rfl) (by kernel_rfl) (by kernel_rfl) rfl (by rfl) (fun W hSw => by go_simp) (fun _ _ _ h => h) HX3.out ?_
  simp only [Act.put, List.setIfInBounds_toArray, List.set_cons_zero, List.set_cons_succ]
  refine hd_take 4 (o := ⟨some 9, _, _, _, _, _⟩) (q.val) (by kernel_rfl) (by kernel_rfl) (by kernel_rfl) rfl (by rfl) (fun W hSw => by exact run_loadT Tryz.underlying30 rfl (qtL q) infoQ _ rfl ⟨B, 0, none⟩ rfl (row_cells hSw)) (fun _ _ _ h => h) HX3.out ?_
  simp only [Act.put, List.setIfInBounds_toArray, List.set_cons_zero, List.set_cons_succ]
  refine hd_call 2 (o := ⟨some 7, _, _, _, _, _⟩) (by kernel_rfl) rfl (by rfl) (fun K' hK => ?_)
  go_simp
  go_wp2_with (go_at_call 11; refine (new_any w3 s q).mono ?_; rintro e1 w4 ⟨T, rfl, F1, hE, hF1, hb4⟩)
  have HE4 := hide hE
  have HF1 := hide hF1
  have HX4 := hide ((hb4.block B (Array.getElem?_eq_some_iff.1 HX3.out).1).trans HX3.out)
  have HA4 := hide ((hb4.block A (Array.getElem?_eq_some_iff.1 HA3.out).1).trans HA3.out)
  have HB4 := hide (HB3.out.trans (hb4.mono HB3.out.size))
  have HS5 : Hid (w3.heap.size ≤ w4.heap.size) := hide hb4.size
  have HSz : Hid (w.heap.size ≤ w3.heap.size) := hide HB3.out.size
  have HAl : Hid (A < w3.heap.size) := hide (Array.getElem?_eq_some_iff.1 HA3.out).1
  clear hE hF1 hb4 HX3 HA3 HB3
  refine hK _ _ HX4.out ?_
  clear hK K'
  try simp only [Act.put, List.setIfInBounds_toArray, List.set_cons_zero, List.set_cons_succ]
  refine hd_call 5 (o := ⟨some 10, _, _, _, _, _⟩) (by kernel_rfl) rfl (by rfl) (fun K' hK => ?_)
  go_simp
  go_wp2_with (go_at_call 14; refine (newD_any w4 s q).mono ?_; rintro e1 w5 ⟨R, F2, rfl, hR, hF2, hb5⟩)
  have HE5 := hide ((good_et T _ _).below (show EtA T _ _ w4 F1 from HE4.out) hb5)
  have HR5 := hide hR
  have HX5 := hide ((hb5.block B (Array.getElem?_eq_some_iff.1 HX4.out).1).trans HX4.out)
  have HA5 := hide ((hb5.block A (Array.getElem?_eq_some_iff.1 HA4.out).1).trans HA4.out)
  have HB5 := hide (HB4.out.trans (hb5.mono HB4.out.size))
  have HD5 : Hid (∀ b, F1 b → ¬ F2 b) := hide (fun b h1 h2 => by have := hF2 b h2; have := Et.lt HE4.out b h1; omega)
  have HG5 : Hid (∀ b, F1 b ∨ F2 b → w3.heap.size ≤ b) := hide (fun b h1 => by
    rcases h1 with h1 | h1
    · exact HF1.out b h1
    · have := hF2 b h1; have := HS5.out; omega)
  clear hR hF2 hb5 HX4 HA4 HB4 HE4
  refine hK _ _ HX5.out ?_
  clear hK K'
  try simp only [Act.put, List.setIfInBounds_toArray, List.set_cons_zero, List.set_cons_succ]
  have HB6 := hide (below_setCells HB5.out HAw.out 0 [tp T, tp R])
  have HX6 : Hid ((w5.setCells A 0 [tp T, tp R]).heap[B]? = some (.cells #[.int .i64 q.f, .int .i64 q.e, .int .i64 q.x] 30 (0, 0))) := hide (by rw [heap_setCells_other _ _ HBA.out]; exact HX5.out)
  have HP6 : Hid (PrA T R (w5.setCells A 0 [tp T, tp R]) (fun b => F1 b ∨ F2 b)) := hide ⟨_, _, ⟨F1, F2, Et.keep HE5.out (by rw [(setCells_rest A _ _ _).2.2.2]; exact Nat.le_refl _) (fun b hb => heap_setCells_other _ _ (fun e => by have := HG5.out b (.inl hb); have := HAl.out; omega) _ _ _), (good_rt R _ _).keep HR5.out (by rw [(setCells_rest A _ _ _).2.2.2]; exact Nat.le_refl _) (fun b hb => heap_setCells_other _ _ (fun e => by have := HG5.out b (.inr hb); have := HAl.out; omega) _ _ _), fun b => Iff.rfl, HD5.out⟩, iv_first s q, wd_first s q⟩
  have HA6 : Hid ((w5.setCells A 0 [tp T, tp R]).heap[A]? = some (.cells #[tp T, tp R] 27 (0, 0))) := hide (heap_setCells_row A 27 [tp T, tp R] 0 w5 [.pointer none, .pointer none] HA5.out)
  refine hd_take 6 (o := ⟨some 11, _, _, _, _, _⟩) (.agg #[tp T, tp R]) (by kernel_rfl) (by kernel_rfl) (by kernel_rfl) rfl (by rfl) (fun W hSw => by go_simp) (fun _ _ _ h => h) HX5.out ?_
  simp only [Act.put, List.setIfInBounds_toArray, List.set_cons_zero, List.set_cons_succ]
  refine hd_call 7 (o := ⟨none, _, _, _, _, _⟩) (by kernel_rfl) rfl (by rfl) (fun K' hK => ?_)
  refine wp_storeT (t := 27) [tp T, tp R] infoPr (by intro u hu; simp at hu; rcases hu with rfl | rfl <;> rfl) _ _ rfl A 0 rfl rfl (there_row (cs := [.pointer none, .pointer none]) HA5.out (Nat.le_refl 2)) ?_
  refine hK _ _ HX6.out ?_
  clear hK K'
  try simp only [Act.put]
  refine wpAnyH_done (by kernel_rfl) ?_ _
  generalize w5.setCells A 0 [tp T, tp R] = w6 at *
  clear HX5 HX6 HA5 HE5 HR5
  go_wp2
  refine bodyPost_ret (results_row1 rfl _ _ A 27 #[tp T, tp R] (0, 0) _ rfl HA6.out Tryz.underlying27 rfl (by kernel_rfl)) rfl ?_
  exact ⟨T, R, _, rfl, HP6.out, fun b hb => by have := HG5.out b hb; have := HSz.out; omega, HB6.out⟩
end Go.Proofs.YtbocpmcodlceoaaGreat

namespace Go.Proofs.YtbocpmcodlceoaaGreat
open Go.ChangeShapes Go.WideShapes Go.ChangeAt Go.RowKit Go.Deep Go.Shelf

def fq : Qt := ⟨9, 3, 1⟩
def fp : Qt := ⟨4, 1, 0⟩
def fr0 : Er := { Er.new 5 (-1) fq.bnd with le := fq.bnd.less (fp.plus Qt.one) }
def fr1 : Er := Er.new 7 0 fp
theorem fx_look : look ((List.replicate 16 none).set 0 (some (Er.new 5 (-1) fq.bnd))) 0 = some (Er.new 5 (-1) fq.bnd) := rfl
theorem fx_ff : ff ((List.replicate 16 none).set 0 (some (Er.new 5 (-1) fq.bnd))) = 1 := by
  unfold ff
  rfl
theorem fx_E : crE ((List.replicate 16 none).set 0 (some (Er.new 5 (-1) fq.bnd))) 5 0 7 fp = 0 := by
  unfold crE
  rw [fx_look, fx_ff]
  dsimp only
  rw [if_pos ⟨⟨rfl, rfl, rfl⟩, by decide, by decide⟩, if_pos ⟨⟨by decide, by decide, by decide⟩, by decide⟩]
theorem fx_N : crN ((List.replicate 16 none).set 0 (some (Er.new 5 (-1) fq.bnd))) 5 0 7 fp = 1 := by
  unfold crN
  rw [if_pos fx_E, fx_ff]
  rfl
theorem fx_S0 : (crS ((List.replicate 16 none).set 0 (some (Er.new 5 (-1) fq.bnd))) 5 0 7 fp)[0]? = some (some fr0) := by
  unfold crS
  rw [fx_look]
  dsimp only
  rw [if_pos fx_E, fx_ff]
  rfl
theorem fx_S1 : (crS ((List.replicate 16 none).set 0 (some (Er.new 5 (-1) fq.bnd))) 5 0 7 fp)[1]? = some (some fr1) := by
  unfold crS
  rw [fx_look]
  dsimp only
  rw [if_pos fx_E, fx_ff]
  rfl
set_option maxRecDepth 8000 in
set_option maxHeartbeats 3200000 in
theorem fixed_any (w : World) : Calls Tryz.prog 4 #[] w fun x w' => x = .returned (.bool true) ∧ Below w.heap.size w w' := by
  go_enter Tryz.func4, Tryz.ntmps4
  go_wp2_with fail
  refine (new_any w 5 fq).mono ?_
  rintro e1 w1 ⟨T, rfl, F, hE, hF, hb1⟩
  have iv := iv_first 5 fq
  have HC := hide (create_any hE iv 0 7 fp)
  rw [fx_E, fx_N] at HC
  obtain ⟨rs2, hrs⟩ : ∃ rs2, crS ((List.replicate 16 none).set 0 (some (Er.new 5 (-1) fq.bnd))) 5 0 7 fp = rs2 := ⟨_, rfl⟩
  have h0 := fx_S0
  have h1 := fx_S1
  rw [hrs] at h0 h1 HC
  have HB1 := hide hb1
  have HF := hide hF
  have H0 := hide h0
  have H1 := hide h1
  clear hE iv hF hb1 hrs h0 h1
  go_wp2_with fail
  refine HC.out.mono ?_
  rintro e1 w2 ⟨rfl, F2, hE2, hX2⟩
  have HB2 : Hid (Below w.heap.size w w2) := hide (HB1.out.trans (hX2.mod.below HF.out HB1.out.size))
  have HI0 := hide (info_any w2 F2 T rs2 _ hE2 0 fr0 H0.out)
  have HE2 := hide hE2
  clear HC HB1 HF hE2 hX2 H0
  go_wp2_with fail
  refine HI0.out.mono ?_
  rintro e1 w3 ⟨rfl, hb3⟩
  have HB3 := hide (HB2.out.trans (hb3.mono HB2.out.size))
  have HE3 := hide ((good_et T rs2 _).below (show EtA T rs2 _ w2 F2 from HE2.out) hb3)
  clear hb3 HI0 HB2 HE2
  obtain ⟨t0, ht0⟩ : ∃ t0, fr0.told = t0 := ⟨_, rfl⟩
  rw [ht0]
  have HT0 := hide ht0
  clear ht0
  have hzn : Eb (w3.alloc (.cells Er.nil.head.toArray 46)) w3.heap.size Er.nil := Eb.new _ _
  have HZn := hide hzn
  have HEn := hide (freshE_eb w3 t0)
  have hbn := freshE_below w3 t0
  have HB4 := hide (HB3.out.trans (hbn.mono HB3.out.size))
  have HE4 := hide ((good_et T rs2 _).below (show EtA T rs2 _ w3 F2 from HE3.out) hbn)
  clear hzn hbn
  go_upto_region 6 with (refine storeE t0 ?nw _ _ rfl w3.heap.size Er.nil ?nx ?ny ?nz ?_)
  try (case nw => rfl)
  try (case nx => rfl)
  try (case ny => rfl)
  try (case nz => exact HZn.out)
  show Code.wp _ _ _ _ (freshE w3 t0)
  generalize freshE w3 t0 = w4 at *
  generalize w3.heap.size = M0 at *
  clear HZn
  have HI1 := hide (info_any w4 F2 T rs2 _ HE4.out 1 fr1 H1.out)
  clear HB3 HE3 H1 HE4
  go_wp2_with fail
  refine HI1.out.mono ?_
  rintro e1 w5 ⟨rfl, hb5⟩
  have HB5 := hide (HB4.out.trans (hb5.mono HB4.out.size))
  have HEm := hide (HEn.out.keep (hb5.block M0 HEn.out.lt))
  clear hb5 HI1 HB4 HEn
  obtain ⟨t1, ht1⟩ : ∃ t1, fr1.told = t1 := ⟨_, rfl⟩
  rw [ht1]
  have HT1 := hide ht1
  clear ht1
  have hzu : Eb (w5.alloc (.cells Er.nil.head.toArray 46)) w5.heap.size Er.nil := Eb.new _ _
  have HZu := hide hzu
  have HEu := hide (freshE_eb w5 t1)
  have hbu := freshE_below w5 t1
  have HB6 := hide (HB5.out.trans (hbu.mono HB5.out.size))
  have HEn := hide (HEm.out.keep (hbu.block M0 HEm.out.lt))
  clear hzu hbu
  go_upto_region 7 with (refine storeE t1 ?uw _ _ rfl w5.heap.size Er.nil ?ux ?uy ?uz ?_)
  try (case uw => rfl)
  try (case ux => rfl)
  try (case uy => rfl)
  try (case uz => exact HZu.out)
  show Code.wp _ _ _ _ (freshE w5 t1)
  generalize freshE w5 t1 = w6 at *
  generalize w5.heap.size = M1 at *
  clear HZu
  rw [← HT0.out] at HEn
  rw [← HT1.out] at HEu
  have k0 : w6.cell? ⟨M0, 0, none⟩ = some (.int .i64 5) := HEn.out.get (j := 0) rfl
  have k1 : w6.cell? ⟨M0, 1, none⟩ = some (.int .i64 (-1)) := HEn.out.get (j := 1) rfl
  have k18 : w6.cell? ⟨M0, 18, none⟩ = some (.int .i64 5) := HEn.out.get (j := 18) rfl
  have k19 : w6.cell? ⟨M0, 19, none⟩ = some (.int .i64 1) := HEn.out.get (j := 19) rfl
  have k20 : w6.cell? ⟨M0, 20, none⟩ = some (.int .i64 1) := HEn.out.get (j := 20) rfl
  have l0 : w6.cell? ⟨M1, 0, none⟩ = some (.int .i64 7) := HEu.out.get (j := 0) rfl
  have l1 : w6.cell? ⟨M1, 1, none⟩ = some (.int .i64 0) := HEu.out.get (j := 1) rfl
  clear HB5 HEm HT0 HT1 HEn HEu
  go_wp2_with (refine eqlT #[.int .i64 5, .int .i64 1, .int .i64 1] (se_quota 9998 ⟨5, 1, 1⟩) (by kernel_rfl) ?ew _ _ rfl ?ex ?ey ?_)
  try (case ew => rfl)
  try (case ex => rfl)
  try (case ey => rfl)
  go_ret
  exact ⟨rfl, HB6.out⟩
end Go.Proofs.YtbocpmcodlceoaaGreat
