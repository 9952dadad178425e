import Derived.Test.YtmflohehnoghhaaPJ
namespace Go.Proofs.Ytmflohehnoghhaa
open Go.RowKit

set_option maxRecDepth 100000 in
set_option maxHeartbeats 8000000 in
theorem changes_any {w : World} {B R : Nat} {H : Nat → Prop} (h : PrA B R w H) (o : Ost) (hz : IsMaps w o.la o.ll o.Z) (hl : o.ll * 24 ≤ 140737488351232) (hml : o.ll ≤ maxLen) :
    Calls Try.prog 8 #[.agg #[bp B, rp' R], .agg o.cells.toArray] w fun e w' => e = .returned (.bool true) ∧ ∃ H', PrA B R w' H' ∧ Ext H w H' w' := by
  obtain ⟨wB, hwB⟩ : ∃ wB, (w.alloc (.cells #[bp B, rp' R] 27)).alloc (.cells o.cells.toArray 34) = wB := ⟨_, rfl⟩
  have hbx : Below w.heap.size w wB := by rw [← hwB]; exact ((Below.refl _ _).alloc (Nat.le_refl _) _).alloc (by simp) _
  have hn2 : wB.heap[w.heap.size + 1]? = some (.cells o.cells.toArray 34 (0, 0)) := by
    rw [← hwB]
    have := heap_alloc_new (w.alloc (.cells #[bp B, rp' R] 27)) (.cells o.cells.toArray 34)
    simpa using this
  have hn1 : wB.heap[w.heap.size]? = some (.cells #[bp B, rp' R] 27 (0, 0)) := by
    rw [← hwB, Below.heap_alloc _ _ _ (by simp)]
    exact heap_alloc_new _ _
  have hlt := (good_pr B R).lt h
  have HNH : Hid (¬ H w.heap.size ∧ ¬ H (w.heap.size + 1)) := hide ⟨fun e => by have := hlt _ e; omega, fun e => by have := hlt _ e; omega⟩
  have HNB : Hid (w.heap.size ≠ B ∧ w.heap.size + 1 ≠ B) := by
    obtain ⟨m, L, F, ⟨h1, _, _⟩, _, _⟩ := h
    have := h1.lt
    exact hide ⟨by omega, by omega⟩
  have HPB := hide ((good_pr B R).keep h hbx.size (fun b hb => hbx.block b (hlt b hb)))
  have HX0 : Hid (Ext H w H wB) := hide (Ext.of_below hbx)
  have HN1 := hide hn1
  have HN2 := hide hn2
  have HZ := hide (hz.below hbx)
  have HL := hide hl
  have HML := hide hml
  have HWB := hide hwB
  clear h hlt hbx hn1 hn2 hz hl hml hwB
  go_enter Try.func8, Try.ntmps8
  go_upto_region 1 with fail
  show Code.wp _ _ _ _ ((w.alloc (.cells #[bp B, rp' R] 27)).alloc (.cells o.cells.toArray 34))
  rw [HWB.out]
  clear HWB
  obtain ⟨N2, hN2⟩ : ∃ N2, w.heap.size + 1 = N2 := ⟨_, rfl⟩
  rw [hN2] at HNH HNB HN2
  try rw [hN2]
  generalize w.heap.size = N at *
  have HC : Hid (∀ W : World, (W.heap[N]? = some (.cells #[bp B, rp' R] 27 (0, 0)) ∧ W.heap[N2]? = some (.cells o.cells.toArray 34 (0, 0))) → W.cell? ⟨N, 0, none⟩ = some (bp B) ∧ W.cell? ⟨N, 1, none⟩ = some (rp' R) ∧ W.cell? ⟨N2, 0, none⟩ = some (.int .i64 o.kd) ∧ W.cell? ⟨N2, 2, none⟩ = some (.int .i64 o.v) ∧ W.cell? ⟨N2, 3, none⟩ = some (.int .i64 o.s) ∧ W.cell? ⟨N2, 4, none⟩ = some (.bool o.b) ∧ W.cell? ⟨N2, 6, none⟩ = some (.slice o.la o.ll o.lc)) := hide fun W hW => ⟨by rw [cell_of_row _ _ _ _ _ _ hW.1]; rfl, by rw [cell_of_row _ _ _ _ _ _ hW.1]; rfl, by rw [cell_of_row _ _ _ _ _ _ hW.2]; rfl, by rw [cell_of_row _ _ _ _ _ _ hW.2]; rfl, by rw [cell_of_row _ _ _ _ _ _ hW.2]; rfl, by rw [cell_of_row _ _ _ _ _ _ hW.2]; rfl, by rw [cell_of_row _ _ _ _ _ _ hW.2]; rfl⟩
  obtain ⟨-, -, x2, -, -, -, x6⟩ := HC.out wB ⟨HN1.out, HN2.out⟩
  by_cases k1 : o.kd = 1
  · rw [k1] at x2
    go_upto_region 3 with fail
    have HT0 : Hid (wB.drew.heap[N]? = some (.cells #[bp B, rp' R] 27 (0, 0)) ∧ wB.drew.heap[N2]? = some (.cells o.cells.toArray 34 (0, 0))) := hide ⟨HN1.out, HN2.out⟩
    have HBd : Hid (Below wB.heap.size wB wB.drew) := hide ⟨rfl, rfl, rfl, Nat.le_refl _, fun _ _ => rfl⟩
    refine wp_region_held_drew (S := fun W => W.heap[N]? = some (.cells #[bp B, rp' R] 27 (0, 0)) ∧ W.heap[N2]? = some (.cells o.cells.toArray 34 (0, 0))) (by kernel_rfl) HT0.out (fun _ => ?_)
    generalize wB.drew = wq0 at *
    have HP0 := hide ((good_pr B R).keep HPB.out HBd.out.size (fun b hb => HBd.out.block b ((good_pr B R).lt HPB.out b hb)))
    refine hd_take 0 (o := ⟨some 10, _, _, _, _, _⟩) (.pointer (some ⟨N, 0, none⟩)) (by kernel_rfl) (by kernel_rfl) (by kernel_rfl) rfl (by rfl) (fun W hSw => by go_simp) (fun _ _ _ h => h) HT0.out ?_
    simp only [Act.put, List.setIfInBounds_toArray, List.set_cons_zero, List.set_cons_succ]
    refine hd_take 1 (o := ⟨some 11, _, _, _, _, _⟩) (bp B) (by kernel_rfl) (by kernel_rfl) (by kernel_rfl) rfl (by rfl) (fun W hSw => by obtain ⟨x0, x1, x2, x3, x4, x5, x6⟩ := HC.out W hSw; go_simp) (fun _ _ _ h => h) HT0.out ?_
    simp only [Act.put, List.setIfInBounds_toArray, List.set_cons_zero, List.set_cons_succ]
    refine hd_take 2 (o := ⟨some 12, _, _, _, _, _⟩) (.pointer (some ⟨N2, 2, none⟩)) (by kernel_rfl) (by kernel_rfl) (by kernel_rfl) rfl (by rfl) (fun W hSw => by go_simp) (fun _ _ _ h => h) HT0.out ?_
    simp only [Act.put, List.setIfInBounds_toArray, List.set_cons_zero, List.set_cons_succ]
    refine hd_take 3 (o := ⟨some 13, _, _, _, _, _⟩) (.int .i64 o.v) (by kernel_rfl) (by kernel_rfl) (by kernel_rfl) rfl (by rfl) (fun W hSw => by obtain ⟨x0, x1, x2, x3, x4, x5, x6⟩ := HC.out W hSw; go_simp) (fun _ _ _ h => h) HT0.out ?_
    simp only [Act.put, List.setIfInBounds_toArray, List.set_cons_zero, List.set_cons_succ]
    refine hd_take 4 (o := ⟨some 14, _, _, _, _, _⟩) (.pointer (some ⟨N2, 3, none⟩)) (by kernel_rfl) (by kernel_rfl) (by kernel_rfl) rfl (by rfl) (fun W hSw => by go_simp) (fun _ _ _ h => h) HT0.out ?_
    simp only [Act.put, List.setIfInBounds_toArray, List.set_cons_zero, List.set_cons_succ]
    refine hd_take 5 (o := ⟨some 15, _, _, _, _, _⟩) (.int .i64 o.s) (by kernel_rfl) (by kernel_rfl) (by kernel_rfl) rfl (by rfl) (fun W hSw => by obtain ⟨x0, x1, x2, x3, x4, x5, x6⟩ := HC.out W hSw; go_simp) (fun _ _ _ h => h) HT0.out ?_
    simp only [Act.put, List.setIfInBounds_toArray, List.set_cons_zero, List.set_cons_succ]
    refine hd_take 6 (o := ⟨some 16, _, _, _, _, _⟩) (.pointer (some ⟨N2, 4, none⟩)) (by kernel_rfl) (by kernel_rfl) (by kernel_rfl) rfl (by rfl) (fun W hSw => by go_simp) (fun _ _ _ h => h) HT0.out ?_
    simp only [Act.put, List.setIfInBounds_toArray, List.set_cons_zero, List.set_cons_succ]
    refine hd_take 7 (o := ⟨some 17, _, _, _, _, _⟩) (.bool o.b) (by kernel_rfl) (by kernel_rfl) (by kernel_rfl) rfl (by rfl) (fun W hSw => by obtain ⟨x0, x1, x2, x3, x4, x5, x6⟩ := HC.out W hSw; go_simp) (fun _ _ _ h => h) HT0.out ?_
    simp only [Act.put, List.setIfInBounds_toArray, List.set_cons_zero, List.set_cons_succ]
    refine hd_take 9 (o := ⟨some 19, _, _, _, _, _⟩) (.pointer (some ⟨N, 1, none⟩)) (by kernel_rfl) (by kernel_rfl) (by kernel_rfl) rfl (by rfl) (fun W hSw => by go_simp) (fun _ _ _ h => h) HT0.out ?_
    simp only [Act.put, List.setIfInBounds_toArray, List.set_cons_zero, List.set_cons_succ]
    refine hd_take 10 (o := ⟨some 20, _, _, _, _, _⟩) (rp' R) (by kernel_rfl) (by kernel_rfl) (by kernel_rfl) rfl (by rfl) (fun W hSw => by obtain ⟨x0, x1, x2, x3, x4, x5, x6⟩ := HC.out W hSw; go_simp) (fun _ _ _ h => h) HT0.out ?_
    simp only [Act.put, List.setIfInBounds_toArray, List.set_cons_zero, List.set_cons_succ]
    refine hd_take 11 (o := ⟨some 21, _, _, _, _, _⟩) (.pointer (some ⟨N2, 2, none⟩)) (by kernel_rfl) (by kernel_rfl) (by kernel_rfl) rfl (by rfl) (fun W hSw => by go_simp) (fun _ _ _ h => h) HT0.out ?_
    simp only [Act.put, List.setIfInBounds_toArray, List.set_cons_zero, List.set_cons_succ]
    refine hd_take 12 (o := ⟨some 22, _, _, _, _, _⟩) (.int .i64 o.v) (by kernel_rfl) (by kernel_rfl) (by kernel_rfl) rfl (by rfl) (fun W hSw => by obtain ⟨x0, x1, x2, x3, x4, x5, x6⟩ := HC.out W hSw; go_simp) (fun _ _ _ h => h) HT0.out ?_
    simp only [Act.put, List.setIfInBounds_toArray, List.set_cons_zero, List.set_cons_succ]
    refine hd_take 13 (o := ⟨some 23, _, _, _, _, _⟩) (.pointer (some ⟨N2, 3, none⟩)) (by kernel_rfl) (by kernel_rfl) (by kernel_rfl) rfl (by rfl) (fun W hSw => by go_simp) (fun _ _ _ h => h) HT0.out ?_
    simp only [Act.put, List.setIfInBounds_toArray, List.set_cons_zero, List.set_cons_succ]
    refine hd_take 14 (o := ⟨some 24, _, _, _, _, _⟩) (.int .i64 o.s) (by kernel_rfl) (by kernel_rfl) (by kernel_rfl) rfl (by rfl) (fun W hSw => by obtain ⟨x0, x1, x2, x3, x4, x5, x6⟩ := HC.out W hSw; go_simp) (fun _ _ _ h => h) HT0.out ?_
    simp only [Act.put, List.setIfInBounds_toArray, List.set_cons_zero, List.set_cons_succ]
    refine hd_take 15 (o := ⟨some 25, _, _, _, _, _⟩) (.pointer (some ⟨N2, 4, none⟩)) (by kernel_rfl) (by kernel_rfl) (by kernel_rfl) rfl (by rfl) (fun W hSw => by go_simp) (fun _ _ _ h => h) HT0.out ?_
    simp only [Act.put, List.setIfInBounds_toArray, List.set_cons_zero, List.set_cons_succ]
    refine hd_take 16 (o := ⟨some 26, _, _, _, _, _⟩) (.bool o.b) (by kernel_rfl) (by kernel_rfl) (by kernel_rfl) rfl (by rfl) (fun W hSw => by obtain ⟨x0, x1, x2, x3, x4, x5, x6⟩ := HC.out W hSw; go_simp) (fun _ _ _ h => h) HT0.out ?_
    simp only [Act.put, List.setIfInBounds_toArray, List.set_cons_zero, List.set_cons_succ]
    obtain ⟨c, Q, hc1, hc2⟩ := two_map HP0.out o.v o.s o.b
    have HC1 := hide hc1
    have HC2 := hide hc2
    clear hc1 hc2
    refine hd_call 8 (o := ⟨some 18, _, _, _, _, _⟩) (by kernel_rfl) rfl (by rfl) (fun K hK => ?_)
    go_simp
    go_wp2_with (go_at_call 17; refine (show Calls Try.prog 17 #[bp B, .int .i64 o.v, .int .i64 o.s, .bool o.b] _ _ from HC1.out).mono ?_; rintro e1 wq1 ⟨rfl, hQ, hMd⟩)
    have HS1 : Hid (wq1.heap[N]? = some (.cells #[bp B, rp' R] 27 (0, 0)) ∧ wq1.heap[N2]? = some (.cells o.cells.toArray 34 (0, 0))) := hide ⟨(hMd.block N (Array.getElem?_eq_some_iff.1 HT0.out.1).1 HNB.out.1).trans HT0.out.1, (hMd.block N2 (Array.getElem?_eq_some_iff.1 HT0.out.2).1 HNB.out.2).trans HT0.out.2⟩
    have HQ := hide hQ
    clear hQ hMd
    refine hK _ _ HS1.out ?_
    clear hK K
    try simp only [Act.put, List.setIfInBounds_toArray, List.set_cons_zero, List.set_cons_succ]
    refine hd_call 17 (o := ⟨some 27, _, _, _, _, _⟩) (by kernel_rfl) rfl (by rfl) (fun K hK => ?_)
    go_simp
    go_wp2_with (go_at_call 19; refine (show Calls Try.prog 19 #[rp' R, .int .i64 o.v, .int .i64 o.s, .bool o.b] _ _ from HC2.out _ HQ.out).mono ?_; rintro e1 wq2 ⟨rfl, H', hP2, hE2⟩)
    have HS2 : Hid (wq2.heap[N]? = some (.cells #[bp B, rp' R] 27 (0, 0)) ∧ wq2.heap[N2]? = some (.cells o.cells.toArray 34 (0, 0))) := hide ⟨(hE2.mod.block N (Array.getElem?_eq_some_iff.1 HT0.out.1).1 HNH.out.1).trans HT0.out.1, (hE2.mod.block N2 (Array.getElem?_eq_some_iff.1 HT0.out.2).1 HNH.out.2).trans HT0.out.2⟩
    have HF := hide (And.intro hP2 ((HX0.out.trans (Ext.of_below HBd.out)).trans hE2))
    clear hP2 hE2
    refine hK _ _ HS2.out ?_
    clear hK K
    try simp only [Act.put, List.setIfInBounds_toArray, List.set_cons_zero, List.set_cons_succ]
    refine hd_take 18 (o := ⟨some 28, _, _, _, _, _⟩) (.bool true) (by kernel_rfl) (by kernel_rfl) (by kernel_rfl) rfl (by rfl) (fun W hSw => by go_simp) (fun _ _ _ h => h) HS2.out ?_
    simp only [Act.put, List.setIfInBounds_toArray, List.set_cons_zero, List.set_cons_succ]
    refine hd_take 19 (o := ⟨some 4, _, _, _, _, _⟩) (.bool true) (by kernel_rfl) (by kernel_rfl) (by kernel_rfl) rfl (by rfl) (fun W hSw => by go_simp) (fun _ _ _ h => h) HS2.out ?_
    simp only [Act.put, List.setIfInBounds_toArray, List.set_cons_zero, List.set_cons_succ]
    refine wpAnyH_done (by kernel_rfl) ?_ _
    go_wp2
    go_ret
    exact ⟨rfl, H', HF.out.1, HF.out.2⟩
  · by_cases k2 : o.kd = 2
    · rw [k2] at x2
      go_upto_region 5 with fail
      have HT0 : Hid (wB.drew.heap[N]? = some (.cells #[bp B, rp' R] 27 (0, 0)) ∧ wB.drew.heap[N2]? = some (.cells o.cells.toArray 34 (0, 0))) := hide ⟨HN1.out, HN2.out⟩
      have HBd : Hid (Below wB.heap.size wB wB.drew) := hide ⟨rfl, rfl, rfl, Nat.le_refl _, fun _ _ => rfl⟩
      refine wp_region_held_drew (S := fun W => W.heap[N]? = some (.cells #[bp B, rp' R] 27 (0, 0)) ∧ W.heap[N2]? = some (.cells o.cells.toArray 34 (0, 0))) (by kernel_rfl) HT0.out (fun _ => ?_)
      generalize wB.drew = wq0 at *
      have HP0 := hide ((good_pr B R).keep HPB.out HBd.out.size (fun b hb => HBd.out.block b ((good_pr B R).lt HPB.out b hb)))
      refine hd_take 0 (o := ⟨some 31, _, _, _, _, _⟩) (.pointer (some ⟨N, 0, none⟩)) (by kernel_rfl) (by kernel_rfl) (by kernel_rfl) rfl (by rfl) (fun W hSw => by go_simp) (fun _ _ _ h => h) HT0.out ?_
      simp only [Act.put, List.setIfInBounds_toArray, List.set_cons_zero, List.set_cons_succ]
      refine hd_take 1 (o := ⟨some 32, _, _, _, _, _⟩) (bp B) (by kernel_rfl) (by kernel_rfl) (by kernel_rfl) rfl (by rfl) (fun W hSw => by obtain ⟨x0, x1, x2, x3, x4, x5, x6⟩ := HC.out W hSw; go_simp) (fun _ _ _ h => h) HT0.out ?_
      simp only [Act.put, List.setIfInBounds_toArray, List.set_cons_zero, List.set_cons_succ]
      refine hd_take 2 (o := ⟨some 33, _, _, _, _, _⟩) (.pointer (some ⟨N2, 2, none⟩)) (by kernel_rfl) (by kernel_rfl) (by kernel_rfl) rfl (by rfl) (fun W hSw => by go_simp) (fun _ _ _ h => h) HT0.out ?_
      simp only [Act.put, List.setIfInBounds_toArray, List.set_cons_zero, List.set_cons_succ]
      refine hd_take 3 (o := ⟨some 34, _, _, _, _, _⟩) (.int .i64 o.v) (by kernel_rfl) (by kernel_rfl) (by kernel_rfl) rfl (by rfl) (fun W hSw => by obtain ⟨x0, x1, x2, x3, x4, x5, x6⟩ := HC.out W hSw; go_simp) (fun _ _ _ h => h) HT0.out ?_
      simp only [Act.put, List.setIfInBounds_toArray, List.set_cons_zero, List.set_cons_succ]
      refine hd_take 5 (o := ⟨some 36, _, _, _, _, _⟩) (.pointer (some ⟨N, 1, none⟩)) (by kernel_rfl) (by kernel_rfl) (by kernel_rfl) rfl (by rfl) (fun W hSw => by go_simp) (fun _ _ _ h => h) HT0.out ?_
      simp only [Act.put, List.setIfInBounds_toArray, List.set_cons_zero, List.set_cons_succ]
      refine hd_take 6 (o := ⟨some 37, _, _, _, _, _⟩) (rp' R) (by kernel_rfl) (by kernel_rfl) (by kernel_rfl) rfl (by rfl) (fun W hSw => by obtain ⟨x0, x1, x2, x3, x4, x5, x6⟩ := HC.out W hSw; go_simp) (fun _ _ _ h => h) HT0.out ?_
      simp only [Act.put, List.setIfInBounds_toArray, List.set_cons_zero, List.set_cons_succ]
      refine hd_take 7 (o := ⟨some 38, _, _, _, _, _⟩) (.pointer (some ⟨N2, 2, none⟩)) (by kernel_rfl) (by kernel_rfl) (by kernel_rfl) rfl (by rfl) (fun W hSw => by go_simp) (fun _ _ _ h => h) HT0.out ?_
      simp only [Act.put, List.setIfInBounds_toArray, List.set_cons_zero, List.set_cons_succ]
      refine hd_take 8 (o := ⟨some 39, _, _, _, _, _⟩) (.int .i64 o.v) (by kernel_rfl) (by kernel_rfl) (by kernel_rfl) rfl (by rfl) (fun W hSw => by obtain ⟨x0, x1, x2, x3, x4, x5, x6⟩ := HC.out W hSw; go_simp) (fun _ _ _ h => h) HT0.out ?_
      simp only [Act.put, List.setIfInBounds_toArray, List.set_cons_zero, List.set_cons_succ]
      obtain ⟨c, Q, hc1, hc2⟩ := two_unmap HP0.out o.v
      have HC1 := hide hc1
      have HC2 := hide hc2
      clear hc1 hc2
      refine hd_call 4 (o := ⟨some 35, _, _, _, _, _⟩) (by kernel_rfl) rfl (by rfl) (fun K hK => ?_)
      go_simp
      go_wp2_with (go_at_call 20; refine (show Calls Try.prog 20 #[bp B, .int .i64 o.v] _ _ from HC1.out).mono ?_; rintro e1 wq1 ⟨rfl, hQ, hMd⟩)
      have HS1 : Hid (wq1.heap[N]? = some (.cells #[bp B, rp' R] 27 (0, 0)) ∧ wq1.heap[N2]? = some (.cells o.cells.toArray 34 (0, 0))) := hide ⟨(hMd.block N (Array.getElem?_eq_some_iff.1 HT0.out.1).1 HNB.out.1).trans HT0.out.1, (hMd.block N2 (Array.getElem?_eq_some_iff.1 HT0.out.2).1 HNB.out.2).trans HT0.out.2⟩
      have HQ := hide hQ
      clear hQ hMd
      refine hK _ _ HS1.out ?_
      clear hK K
      try simp only [Act.put, List.setIfInBounds_toArray, List.set_cons_zero, List.set_cons_succ]
      refine hd_call 9 (o := ⟨some 40, _, _, _, _, _⟩) (by kernel_rfl) rfl (by rfl) (fun K hK => ?_)
      go_simp
      go_wp2_with (go_at_call 21; refine (show Calls Try.prog 21 #[rp' R, .int .i64 o.v] _ _ from HC2.out _ HQ.out).mono ?_; rintro e1 wq2 ⟨rfl, H', hP2, hE2⟩)
      have HS2 : Hid (wq2.heap[N]? = some (.cells #[bp B, rp' R] 27 (0, 0)) ∧ wq2.heap[N2]? = some (.cells o.cells.toArray 34 (0, 0))) := hide ⟨(hE2.mod.block N (Array.getElem?_eq_some_iff.1 HT0.out.1).1 HNH.out.1).trans HT0.out.1, (hE2.mod.block N2 (Array.getElem?_eq_some_iff.1 HT0.out.2).1 HNH.out.2).trans HT0.out.2⟩
      have HF := hide (And.intro hP2 ((HX0.out.trans (Ext.of_below HBd.out)).trans hE2))
      clear hP2 hE2
      refine hK _ _ HS2.out ?_
      clear hK K
      try simp only [Act.put, List.setIfInBounds_toArray, List.set_cons_zero, List.set_cons_succ]
      refine hd_take 10 (o := ⟨some 41, _, _, _, _, _⟩) (.bool true) (by kernel_rfl) (by kernel_rfl) (by kernel_rfl) rfl (by rfl) (fun W hSw => by go_simp) (fun _ _ _ h => h) HS2.out ?_
      simp only [Act.put, List.setIfInBounds_toArray, List.set_cons_zero, List.set_cons_succ]
      refine hd_take 11 (o := ⟨some 4, _, _, _, _, _⟩) (.bool true) (by kernel_rfl) (by kernel_rfl) (by kernel_rfl) rfl (by rfl) (fun W hSw => by go_simp) (fun _ _ _ h => h) HS2.out ?_
      simp only [Act.put, List.setIfInBounds_toArray, List.set_cons_zero, List.set_cons_succ]
      refine wpAnyH_done (by kernel_rfl) ?_ _
      go_wp2
      go_ret
      exact ⟨rfl, H', HF.out.1, HF.out.2⟩
    · by_cases k3 : o.kd = 3
      · rw [k3] at x2
        go_upto_region 7 with fail
        have HT0 : Hid (wB.drew.heap[N]? = some (.cells #[bp B, rp' R] 27 (0, 0)) ∧ wB.drew.heap[N2]? = some (.cells o.cells.toArray 34 (0, 0))) := hide ⟨HN1.out, HN2.out⟩
        have HBd : Hid (Below wB.heap.size wB wB.drew) := hide ⟨rfl, rfl, rfl, Nat.le_refl _, fun _ _ => rfl⟩
        refine wp_region_held_drew (S := fun W => W.heap[N]? = some (.cells #[bp B, rp' R] 27 (0, 0)) ∧ W.heap[N2]? = some (.cells o.cells.toArray 34 (0, 0))) (by kernel_rfl) HT0.out (fun _ => ?_)
        generalize wB.drew = wq0 at *
        have HP0 := hide ((good_pr B R).keep HPB.out HBd.out.size (fun b hb => HBd.out.block b ((good_pr B R).lt HPB.out b hb)))
        refine hd_take 0 (o := ⟨some 44, _, _, _, _, _⟩) (.pointer (some ⟨N, 0, none⟩)) (by kernel_rfl) (by kernel_rfl) (by kernel_rfl) rfl (by rfl) (fun W hSw => by go_simp) (fun _ _ _ h => h) HT0.out ?_
        simp only [Act.put, List.setIfInBounds_toArray, List.set_cons_zero, List.set_cons_succ]
        refine hd_take 1 (o := ⟨some 45, _, _, _, _, _⟩) (bp B) (by kernel_rfl) (by kernel_rfl) (by kernel_rfl) rfl (by rfl) (fun W hSw => by obtain ⟨x0, x1, x2, x3, x4, x5, x6⟩ := HC.out W hSw; go_simp) (fun _ _ _ h => h) HT0.out ?_
        simp only [Act.put, List.setIfInBounds_toArray, List.set_cons_zero, List.set_cons_succ]
        refine hd_take 2 (o := ⟨some 46, _, _, _, _, _⟩) (.pointer (some ⟨N2, 2, none⟩)) (by kernel_rfl) (by kernel_rfl) (by kernel_rfl) rfl (by rfl) (fun W hSw => by go_simp) (fun _ _ _ h => h) HT0.out ?_
        simp only [Act.put, List.setIfInBounds_toArray, List.set_cons_zero, List.set_cons_succ]
        refine hd_take 3 (o := ⟨some 47, _, _, _, _, _⟩) (.int .i64 o.v) (by kernel_rfl) (by kernel_rfl) (by kernel_rfl) rfl (by rfl) (fun W hSw => by obtain ⟨x0, x1, x2, x3, x4, x5, x6⟩ := HC.out W hSw; go_simp) (fun _ _ _ h => h) HT0.out ?_
        simp only [Act.put, List.setIfInBounds_toArray, List.set_cons_zero, List.set_cons_succ]
        refine hd_take 4 (o := ⟨some 48, _, _, _, _, _⟩) (.pointer (some ⟨N2, 4, none⟩)) (by kernel_rfl) (by kernel_rfl) (by kernel_rfl) rfl (by rfl) (fun W hSw => by go_simp) (fun _ _ _ h => h) HT0.out ?_
        simp only [Act.put, List.setIfInBounds_toArray, List.set_cons_zero, List.set_cons_succ]
        refine hd_take 5 (o := ⟨some 49, _, _, _, _, _⟩) (.bool o.b) (by kernel_rfl) (by kernel_rfl) (by kernel_rfl) rfl (by rfl) (fun W hSw => by obtain ⟨x0, x1, x2, x3, x4, x5, x6⟩ := HC.out W hSw; go_simp) (fun _ _ _ h => h) HT0.out ?_
        simp only [Act.put, List.setIfInBounds_toArray, List.set_cons_zero, List.set_cons_succ]
        refine hd_take 7 (o := ⟨some 51, _, _, _, _, _⟩) (.pointer (some ⟨N, 1, none⟩)) (by kernel_rfl) (by kernel_rfl) (by kernel_rfl) rfl (by rfl) (fun W hSw => by go_simp) (fun _ _ _ h => h) HT0.out ?_
        simp only [Act.put, List.setIfInBounds_toArray, List.set_cons_zero, List.set_cons_succ]
        refine hd_take 8 (o := ⟨some 52, _, _, _, _, _⟩) (rp' R) (by kernel_rfl) (by kernel_rfl) (by kernel_rfl) rfl (by rfl) (fun W hSw => by obtain ⟨x0, x1, x2, x3, x4, x5, x6⟩ := HC.out W hSw; go_simp) (fun _ _ _ h => h) HT0.out ?_
        simp only [Act.put, List.setIfInBounds_toArray, List.set_cons_zero, List.set_cons_succ]
        refine hd_take 9 (o := ⟨some 53, _, _, _, _, _⟩) (.pointer (some ⟨N2, 2, none⟩)) (by kernel_rfl) (by kernel_rfl) (by kernel_rfl) rfl (by rfl) (fun W hSw => by go_simp) (fun _ _ _ h => h) HT0.out ?_
        simp only [Act.put, List.setIfInBounds_toArray, List.set_cons_zero, List.set_cons_succ]
        refine hd_take 10 (o := ⟨some 54, _, _, _, _, _⟩) (.int .i64 o.v) (by kernel_rfl) (by kernel_rfl) (by kernel_rfl) rfl (by rfl) (fun W hSw => by obtain ⟨x0, x1, x2, x3, x4, x5, x6⟩ := HC.out W hSw; go_simp) (fun _ _ _ h => h) HT0.out ?_
        simp only [Act.put, List.setIfInBounds_toArray, List.set_cons_zero, List.set_cons_succ]
        refine hd_take 11 (o := ⟨some 55, _, _, _, _, _⟩) (.pointer (some ⟨N2, 4, none⟩)) (by kernel_rfl) (by kernel_rfl) (by kernel_rfl) rfl (by rfl) (fun W hSw => by go_simp) (fun _ _ _ h => h) HT0.out ?_
        simp only [Act.put, List.setIfInBounds_toArray, List.set_cons_zero, List.set_cons_succ]
        refine hd_take 12 (o := ⟨some 56, _, _, _, _, _⟩) (.bool o.b) (by kernel_rfl) (by kernel_rfl) (by kernel_rfl) rfl (by rfl) (fun W hSw => by obtain ⟨x0, x1, x2, x3, x4, x5, x6⟩ := HC.out W hSw; go_simp) (fun _ _ _ h => h) HT0.out ?_
        simp only [Act.put, List.setIfInBounds_toArray, List.set_cons_zero, List.set_cons_succ]
        obtain ⟨c, Q, hc1, hc2⟩ := two_prot HP0.out o.v o.b
        have HC1 := hide hc1
        have HC2 := hide hc2
        clear hc1 hc2
        refine hd_call 6 (o := ⟨some 50, _, _, _, _, _⟩) (by kernel_rfl) rfl (by rfl) (fun K hK => ?_)
        go_simp
        go_wp2_with (go_at_call 22; refine (show Calls Try.prog 22 #[bp B, .int .i64 o.v, .bool o.b] _ _ from HC1.out).mono ?_; rintro e1 wq1 ⟨rfl, hQ, hMd⟩)
        have HS1 : Hid (wq1.heap[N]? = some (.cells #[bp B, rp' R] 27 (0, 0)) ∧ wq1.heap[N2]? = some (.cells o.cells.toArray 34 (0, 0))) := hide ⟨(hMd.block N (Array.getElem?_eq_some_iff.1 HT0.out.1).1 HNB.out.1).trans HT0.out.1, (hMd.block N2 (Array.getElem?_eq_some_iff.1 HT0.out.2).1 HNB.out.2).trans HT0.out.2⟩
        have HQ := hide hQ
        clear hQ hMd
        refine hK _ _ HS1.out ?_
        clear hK K
        try simp only [Act.put, List.setIfInBounds_toArray, List.set_cons_zero, List.set_cons_succ]
        refine hd_call 13 (o := ⟨some 57, _, _, _, _, _⟩) (by kernel_rfl) rfl (by rfl) (fun K hK => ?_)
        go_simp
        go_wp2_with (go_at_call 23; refine (show Calls Try.prog 23 #[rp' R, .int .i64 o.v, .bool o.b] _ _ from HC2.out _ HQ.out).mono ?_; rintro e1 wq2 ⟨rfl, H', hP2, hE2⟩)
        have HS2 : Hid (wq2.heap[N]? = some (.cells #[bp B, rp' R] 27 (0, 0)) ∧ wq2.heap[N2]? = some (.cells o.cells.toArray 34 (0, 0))) := hide ⟨(hE2.mod.block N (Array.getElem?_eq_some_iff.1 HT0.out.1).1 HNH.out.1).trans HT0.out.1, (hE2.mod.block N2 (Array.getElem?_eq_some_iff.1 HT0.out.2).1 HNH.out.2).trans HT0.out.2⟩
        have HF := hide (And.intro hP2 ((HX0.out.trans (Ext.of_below HBd.out)).trans hE2))
        clear hP2 hE2
        refine hK _ _ HS2.out ?_
        clear hK K
        try simp only [Act.put, List.setIfInBounds_toArray, List.set_cons_zero, List.set_cons_succ]
        refine hd_take 14 (o := ⟨some 58, _, _, _, _, _⟩) (.bool true) (by kernel_rfl) (by kernel_rfl) (by kernel_rfl) rfl (by rfl) (fun W hSw => by go_simp) (fun _ _ _ h => h) HS2.out ?_
        simp only [Act.put, List.setIfInBounds_toArray, List.set_cons_zero, List.set_cons_succ]
        refine hd_take 15 (o := ⟨some 4, _, _, _, _, _⟩) (.bool true) (by kernel_rfl) (by kernel_rfl) (by kernel_rfl) rfl (by rfl) (fun W hSw => by go_simp) (fun _ _ _ h => h) HS2.out ?_
        simp only [Act.put, List.setIfInBounds_toArray, List.set_cons_zero, List.set_cons_succ]
        refine wpAnyH_done (by kernel_rfl) ?_ _
        go_wp2
        go_ret
        exact ⟨rfl, H', HF.out.1, HF.out.2⟩
      · by_cases k6 : o.kd = 6
        · rw [k6] at x2
          go_upto_region 9 with fail
          have HT0 : Hid (wB.drew.heap[N]? = some (.cells #[bp B, rp' R] 27 (0, 0)) ∧ wB.drew.heap[N2]? = some (.cells o.cells.toArray 34 (0, 0))) := hide ⟨HN1.out, HN2.out⟩
          have HBd : Hid (Below wB.heap.size wB wB.drew) := hide ⟨rfl, rfl, rfl, Nat.le_refl _, fun _ _ => rfl⟩
          refine wp_region_held_drew (S := fun W => W.heap[N]? = some (.cells #[bp B, rp' R] 27 (0, 0)) ∧ W.heap[N2]? = some (.cells o.cells.toArray 34 (0, 0))) (by kernel_rfl) HT0.out (fun _ => ?_)
          generalize wB.drew = wq0 at *
          have HP0 := hide ((good_pr B R).keep HPB.out HBd.out.size (fun b hb => HBd.out.block b ((good_pr B R).lt HPB.out b hb)))
          refine hd_take 0 (o := ⟨some 61, _, _, _, _, _⟩) (.pointer (some ⟨N, 0, none⟩)) (by kernel_rfl) (by kernel_rfl) (by kernel_rfl) rfl (by rfl) (fun W hSw => by go_simp) (fun _ _ _ h => h) HT0.out ?_
          simp only [Act.put, List.setIfInBounds_toArray, List.set_cons_zero, List.set_cons_succ]
          refine hd_take 1 (o := ⟨some 62, _, _, _, _, _⟩) (bp B) (by kernel_rfl) (by kernel_rfl) (by kernel_rfl) rfl (by rfl) (fun W hSw => by obtain ⟨x0, x1, x2, x3, x4, x5, x6⟩ := HC.out W hSw; go_simp) (fun _ _ _ h => h) HT0.out ?_
          simp only [Act.put, List.setIfInBounds_toArray, List.set_cons_zero, List.set_cons_succ]
          refine hd_take 2 (o := ⟨some 63, _, _, _, _, _⟩) (.pointer (some ⟨N2, 3, none⟩)) (by kernel_rfl) (by kernel_rfl) (by kernel_rfl) rfl (by rfl) (fun W hSw => by go_simp) (fun _ _ _ h => h) HT0.out ?_
          simp only [Act.put, List.setIfInBounds_toArray, List.set_cons_zero, List.set_cons_succ]
          refine hd_take 3 (o := ⟨some 64, _, _, _, _, _⟩) (.int .i64 o.s) (by kernel_rfl) (by kernel_rfl) (by kernel_rfl) rfl (by rfl) (fun W hSw => by obtain ⟨x0, x1, x2, x3, x4, x5, x6⟩ := HC.out W hSw; go_simp) (fun _ _ _ h => h) HT0.out ?_
          simp only [Act.put, List.setIfInBounds_toArray, List.set_cons_zero, List.set_cons_succ]
          refine hd_take 5 (o := ⟨some 66, _, _, _, _, _⟩) (.pointer (some ⟨N, 1, none⟩)) (by kernel_rfl) (by kernel_rfl) (by kernel_rfl) rfl (by rfl) (fun W hSw => by go_simp) (fun _ _ _ h => h) HT0.out ?_
          simp only [Act.put, List.setIfInBounds_toArray, List.set_cons_zero, List.set_cons_succ]
          refine hd_take 6 (o := ⟨some 67, _, _, _, _, _⟩) (rp' R) (by kernel_rfl) (by kernel_rfl) (by kernel_rfl) rfl (by rfl) (fun W hSw => by obtain ⟨x0, x1, x2, x3, x4, x5, x6⟩ := HC.out W hSw; go_simp) (fun _ _ _ h => h) HT0.out ?_
          simp only [Act.put, List.setIfInBounds_toArray, List.set_cons_zero, List.set_cons_succ]
          refine hd_take 7 (o := ⟨some 68, _, _, _, _, _⟩) (.pointer (some ⟨N2, 3, none⟩)) (by kernel_rfl) (by kernel_rfl) (by kernel_rfl) rfl (by rfl) (fun W hSw => by go_simp) (fun _ _ _ h => h) HT0.out ?_
          simp only [Act.put, List.setIfInBounds_toArray, List.set_cons_zero, List.set_cons_succ]
          refine hd_take 8 (o := ⟨some 69, _, _, _, _, _⟩) (.int .i64 o.s) (by kernel_rfl) (by kernel_rfl) (by kernel_rfl) rfl (by rfl) (fun W hSw => by obtain ⟨x0, x1, x2, x3, x4, x5, x6⟩ := HC.out W hSw; go_simp) (fun _ _ _ h => h) HT0.out ?_
          simp only [Act.put, List.setIfInBounds_toArray, List.set_cons_zero, List.set_cons_succ]
          obtain ⟨c, Q, hc1, hc2⟩ := two_forget HP0.out o.s
          have HC1 := hide hc1
          have HC2 := hide hc2
          clear hc1 hc2
          refine hd_call 4 (o := ⟨some 65, _, _, _, _, _⟩) (by kernel_rfl) rfl (by rfl) (fun K hK => ?_)
          go_simp
          go_wp2_with (go_at_call 24; refine (show Calls Try.prog 24 #[bp B, .int .i64 o.s] _ _ from HC1.out).mono ?_; rintro e1 wq1 ⟨rfl, hQ, hMd⟩)
          have HS1 : Hid (wq1.heap[N]? = some (.cells #[bp B, rp' R] 27 (0, 0)) ∧ wq1.heap[N2]? = some (.cells o.cells.toArray 34 (0, 0))) := hide ⟨(hMd.block N (Array.getElem?_eq_some_iff.1 HT0.out.1).1 HNB.out.1).trans HT0.out.1, (hMd.block N2 (Array.getElem?_eq_some_iff.1 HT0.out.2).1 HNB.out.2).trans HT0.out.2⟩
          have HQ := hide hQ
          clear hQ hMd
          refine hK _ _ HS1.out ?_
          clear hK K
          try simp only [Act.put, List.setIfInBounds_toArray, List.set_cons_zero, List.set_cons_succ]
          refine hd_call 9 (o := ⟨some 70, _, _, _, _, _⟩) (by kernel_rfl) rfl (by rfl) (fun K hK => ?_)
          go_simp
          go_wp2_with (go_at_call 25; refine (show Calls Try.prog 25 #[rp' R, .int .i64 o.s] _ _ from HC2.out _ HQ.out).mono ?_; rintro e1 wq2 ⟨rfl, H', hP2, hE2⟩)
          have HS2 : Hid (wq2.heap[N]? = some (.cells #[bp B, rp' R] 27 (0, 0)) ∧ wq2.heap[N2]? = some (.cells o.cells.toArray 34 (0, 0))) := hide ⟨(hE2.mod.block N (Array.getElem?_eq_some_iff.1 HT0.out.1).1 HNH.out.1).trans HT0.out.1, (hE2.mod.block N2 (Array.getElem?_eq_some_iff.1 HT0.out.2).1 HNH.out.2).trans HT0.out.2⟩
          have HF := hide (And.intro hP2 ((HX0.out.trans (Ext.of_below HBd.out)).trans hE2))
          clear hP2 hE2
          refine hK _ _ HS2.out ?_
          clear hK K
          try simp only [Act.put, List.setIfInBounds_toArray, List.set_cons_zero, List.set_cons_succ]
          refine hd_take 10 (o := ⟨some 71, _, _, _, _, _⟩) (.bool true) (by kernel_rfl) (by kernel_rfl) (by kernel_rfl) rfl (by rfl) (fun W hSw => by go_simp) (fun _ _ _ h => h) HS2.out ?_
          simp only [Act.put, List.setIfInBounds_toArray, List.set_cons_zero, List.set_cons_succ]
          refine hd_take 11 (o := ⟨some 4, _, _, _, _, _⟩) (.bool true) (by kernel_rfl) (by kernel_rfl) (by kernel_rfl) rfl (by rfl) (fun W hSw => by go_simp) (fun _ _ _ h => h) HS2.out ?_
          simp only [Act.put, List.setIfInBounds_toArray, List.set_cons_zero, List.set_cons_succ]
          refine wpAnyH_done (by kernel_rfl) ?_ _
          go_wp2
          go_ret
          exact ⟨rfl, H', HF.out.1, HF.out.2⟩
        · have b1 : (o.kd == 1) = false := by simp [k1]
          have b2 : (o.kd == 2) = false := by simp [k2]
          have b3 : (o.kd == 3) = false := by simp [k3]
          have b6 : (o.kd == 6) = false := by simp [k6]
          go_wp2_with fail
          refine (own_any wB o.la o.ll o.lc o.Z HZ.out HL.out).mono ?_
          rintro e wO ⟨r, rfl, hO, hbO⟩
          have HN1o := hide ((hbO.block N (Array.getElem?_eq_some_iff.1 HN1.out).1).trans HN1.out)
          have HN2o := hide ((hbO.block N2 (Array.getElem?_eq_some_iff.1 HN2.out).1).trans HN2.out)
          have HPBo := hide ((good_pr B R).keep HPB.out hbO.size (fun b hb => hbO.block b ((good_pr B R).lt HPB.out b hb)))
          have HX0o : Hid (Ext H w H wO) := hide (HX0.out.trans (Ext.of_below hbO))
          have HZo := hide (HZ.out.below hbO)
          obtain ⟨ar, cr, hr⟩ := hO.len
          rw [fst_len] at hr
          subst hr
          have HBB : Hid (∀ b, (Value.slice ar o.ll cr).ownBlock = some b → b ≠ B) := hide fun b hb e => by
            obtain ⟨m, L, F, ⟨h1, _, _⟩, _, _⟩ := HPB.out
            have := h1.lt
            have := (hO.blk hb).1
            omega
          have HOo := hide hO
          clear hO hbO x6 x2 HN1 HN2 HPB HX0 HZ
          go_upto_region 11 with fail
          have HT0 : Hid (wO.drew.heap[N]? = some (.cells #[bp B, rp' R] 27 (0, 0)) ∧ wO.drew.heap[N2]? = some (.cells o.cells.toArray 34 (0, 0))) := hide ⟨HN1o.out, HN2o.out⟩
          have HBd : Hid (Below wO.heap.size wO wO.drew) := hide ⟨rfl, rfl, rfl, Nat.le_refl _, fun _ _ => rfl⟩
          refine wp_region_held_drew (S := fun W => W.heap[N]? = some (.cells #[bp B, rp' R] 27 (0, 0)) ∧ W.heap[N2]? = some (.cells o.cells.toArray 34 (0, 0))) (by kernel_rfl) HT0.out (fun _ => ?_)
          generalize wO.drew = wq0 at *
          have HP0 := hide ((good_pr B R).keep HPBo.out HBd.out.size (fun b hb => HBd.out.block b ((good_pr B R).lt HPBo.out b hb)))
          refine hd_take 0 (o := ⟨some 75, _, _, _, _, _⟩) (.pointer (some ⟨N, 0, none⟩)) (by kernel_rfl) (by kernel_rfl) (by kernel_rfl) rfl (by rfl) (fun W hSw => by go_simp) (fun _ _ _ h => h) HT0.out ?_
          simp only [Act.put, List.setIfInBounds_toArray, List.set_cons_zero, List.set_cons_succ]
          refine hd_take 1 (o := ⟨some 76, _, _, _, _, _⟩) (bp B) (by kernel_rfl) (by kernel_rfl) (by kernel_rfl) rfl (by rfl) (fun W hSw => by obtain ⟨x0, x1, x2, x3, x4, x5, x6⟩ := HC.out W hSw; go_simp) (fun _ _ _ h => h) HT0.out ?_
          simp only [Act.put, List.setIfInBounds_toArray, List.set_cons_zero, List.set_cons_succ]
          refine hd_take 2 (o := ⟨some 77, _, _, _, _, _⟩) (.pointer (some ⟨N2, 6, none⟩)) (by kernel_rfl) (by kernel_rfl) (by kernel_rfl) rfl (by rfl) (fun W hSw => by go_simp) (fun _ _ _ h => h) HT0.out ?_
          simp only [Act.put, List.setIfInBounds_toArray, List.set_cons_zero, List.set_cons_succ]
          refine hd_take 3 (o := ⟨some 78, _, _, _, _, _⟩) (.slice o.la o.ll o.lc) (by kernel_rfl) (by kernel_rfl) (by kernel_rfl) rfl (by rfl) (fun W hSw => by obtain ⟨x0, x1, x2, x3, x4, x5, x6⟩ := HC.out W hSw; go_simp) (fun _ _ _ h => h) HT0.out ?_
          simp only [Act.put, List.setIfInBounds_toArray, List.set_cons_zero, List.set_cons_succ]
          refine hd_take 5 (o := ⟨some 80, _, _, _, _, _⟩) (.pointer (some ⟨N, 1, none⟩)) (by kernel_rfl) (by kernel_rfl) (by kernel_rfl) rfl (by rfl) (fun W hSw => by go_simp) (fun _ _ _ h => h) HT0.out ?_
          simp only [Act.put, List.setIfInBounds_toArray, List.set_cons_zero, List.set_cons_succ]
          refine hd_take 6 (o := ⟨some 81, _, _, _, _, _⟩) (rp' R) (by kernel_rfl) (by kernel_rfl) (by kernel_rfl) rfl (by rfl) (fun W hSw => by obtain ⟨x0, x1, x2, x3, x4, x5, x6⟩ := HC.out W hSw; go_simp) (fun _ _ _ h => h) HT0.out ?_
          simp only [Act.put, List.setIfInBounds_toArray, List.set_cons_zero, List.set_cons_succ]
          refine hd_take 7 (o := ⟨some 82, _, _, _, _, _⟩) (.slice ar o.ll cr) (by kernel_rfl) (by kernel_rfl) (by kernel_rfl) rfl (by rfl) (fun W hSw => by go_simp) (fun _ _ _ h => h) HT0.out ?_
          simp only [Act.put, List.setIfInBounds_toArray, List.set_cons_zero, List.set_cons_succ]
          obtain ⟨c, Q, hc1, hc2⟩ := two_load HP0.out o.la ar o.ll o.lc cr o.Z (fun k => (fst o.Z o.ll).getD k Mp.nil) (HZo.out.below HBd.out) (by have h9 := (HOo.out.below HBd.out).maps; rw [fst_len] at h9; exact h9) (fun w1 hm => by have h9 := ((HOo.out.below HBd.out).mod hm (fun b hb e => HBB.out b hb e)).maps; rw [fst_len] at h9; exact h9) (fun k hk => fst_get o.Z hk) HML.out
          have HC1 := hide hc1
          have HC2 := hide hc2
          clear hc1 hc2
          refine hd_call 4 (o := ⟨some 79, _, _, _, _, _⟩) (by kernel_rfl) rfl (by rfl) (fun K hK => ?_)
          go_simp
          go_wp2_with (go_at_call 12; refine (show Calls Try.prog 12 #[bp B, .slice o.la o.ll o.lc] _ _ from HC1.out).mono ?_; rintro e1 wq1 ⟨rfl, hQ, hMd⟩)
          have HS1 : Hid (wq1.heap[N]? = some (.cells #[bp B, rp' R] 27 (0, 0)) ∧ wq1.heap[N2]? = some (.cells o.cells.toArray 34 (0, 0))) := hide ⟨(hMd.block N (Array.getElem?_eq_some_iff.1 HT0.out.1).1 HNB.out.1).trans HT0.out.1, (hMd.block N2 (Array.getElem?_eq_some_iff.1 HT0.out.2).1 HNB.out.2).trans HT0.out.2⟩
          have HQ := hide hQ
          clear hQ hMd
          refine hK _ _ HS1.out ?_
          clear hK K
          try simp only [Act.put, List.setIfInBounds_toArray, List.set_cons_zero, List.set_cons_succ]
          refine hd_call 8 (o := ⟨some 83, _, _, _, _, _⟩) (by kernel_rfl) rfl (by rfl) (fun K hK => ?_)
          go_simp
          go_wp2_with (go_at_call 14; refine (show Calls Try.prog 14 #[rp' R, .slice ar o.ll cr] _ _ from HC2.out _ HQ.out).mono ?_; rintro e1 wq2 ⟨rfl, H', hP2, hE2⟩)
          have HS2 : Hid (wq2.heap[N]? = some (.cells #[bp B, rp' R] 27 (0, 0)) ∧ wq2.heap[N2]? = some (.cells o.cells.toArray 34 (0, 0))) := hide ⟨(hE2.mod.block N (Array.getElem?_eq_some_iff.1 HT0.out.1).1 HNH.out.1).trans HT0.out.1, (hE2.mod.block N2 (Array.getElem?_eq_some_iff.1 HT0.out.2).1 HNH.out.2).trans HT0.out.2⟩
          have HF := hide (And.intro hP2 ((HX0o.out.trans (Ext.of_below HBd.out)).trans hE2))
          clear hP2 hE2
          refine hK _ _ HS2.out ?_
          clear hK K
          try simp only [Act.put, List.setIfInBounds_toArray, List.set_cons_zero, List.set_cons_succ]
          refine hd_take 9 (o := ⟨some 84, _, _, _, _, _⟩) (.bool true) (by kernel_rfl) (by kernel_rfl) (by kernel_rfl) rfl (by rfl) (fun W hSw => by go_simp) (fun _ _ _ h => h) HS2.out ?_
          simp only [Act.put, List.setIfInBounds_toArray, List.set_cons_zero, List.set_cons_succ]
          refine hd_take 10 (o := ⟨some 4, _, _, _, _, _⟩) (.bool true) (by kernel_rfl) (by kernel_rfl) (by kernel_rfl) rfl (by rfl) (fun W hSw => by go_simp) (fun _ _ _ h => h) HS2.out ?_
          simp only [Act.put, List.setIfInBounds_toArray, List.set_cons_zero, List.set_cons_succ]
          refine wpAnyH_done (by kernel_rfl) ?_ _
          go_wp2
          go_ret
          exact ⟨rfl, H', HF.out.1, HF.out.2⟩
end Go.Proofs.Ytmflohehnoghhaa
