import Derived.Test.YtmflohehnoghhaaPK
namespace Go.Proofs.Ytmflohehnoghhaa
open Go.RowKit

section
variable {w : World} {B R : Nat} {m : Nat → E} {L : List Mp} {F : Nat → Prop}
theorem look_entry (h1 : Tb w B m) (h2 : RtA R L w F) (h3 : Ag m L) (v : Int) : ∃ (p : Bool) (q : Int) (r : Bool) (c : Int), Calls Try.prog 27 #[bp B, .int .i64 v] w (fun e w' => e = .returned (.tuple #[.agg #[.bool p, .int .i64 q, .bool r], .int .i64 c]) ∧ Below w.heap.size w w') ∧
    ∀ W, Below w.heap.size w W → Calls Try.prog 28 #[rp' R, .int .i64 v] W (fun e w' => e = .returned (.tuple #[.agg #[.bool p, .int .i64 q, .bool r], .int .i64 c]) ∧ Below W.heap.size W w') := by
  have hk : ∀ W, Below w.heap.size w W → RtA R L W F := fun W hW => (good_rt R L).keep h2 hW.size (fun b hb => hW.block b ((good_rt R L).lt h2 b hb))
  by_cases hp : v < 0 ∨ 16 ≤ v
  · exact ⟨false, 0, false, 60, entry_no w B v hp, fun W _ => entryR_no v hp⟩
  · obtain ⟨k, rfl⟩ : ∃ k : Nat, v = k := ⟨v.toNat, by omega⟩
    have hk16 : k < 16 := by omega
    have he := entry_ok w B m k h1 hk16
    cases hm : m k with
    | none =>
      rw [hm] at he
      exact ⟨false, 0, false, 0, he, fun W hW => entryR_un (hk W hW) h3 k hk16 hm⟩
    | some x =>
      obtain ⟨s, b⟩ := x
      rw [hm] at he
      exact ⟨true, (s : Int), b, 0, he, fun W hW => entryR_ok (hk W hW) h3 k s b hk16 hm⟩
theorem look_trans (h1 : Tb w B m) (h2 : RtA R L w F) (h3 : Ag m L) (a : Nat) (ha : a < 4294967296) (b : Bool) : ∃ (x y c : Int), Calls Try.prog 18 #[bp B, .int .u32 (a : Int), .bool b] w (fun e w' => e = .returned (.tuple #[.int .i64 x, .int .i64 y, .int .i64 c]) ∧ Below w.heap.size w w') ∧
    ∀ W, Below w.heap.size w W → Calls Try.prog 29 #[rp' R, .int .u32 (a : Int), .bool b] W (fun e w' => e = .returned (.tuple #[.int .i64 x, .int .i64 y, .int .i64 c]) ∧ Below W.heap.size W w') := by
  have hk : ∀ W, Below w.heap.size w W → RtA R L W F := fun W hW => (good_rt R L).keep h2 hW.size (fun b hb => hW.block b ((good_rt R L).lt h2 b hb))
  have hd : ∀ {W : World} {v : Value}, (∀ (e : Ending) (w' : World), e = .returned v ∧ w' = W → e = .returned v ∧ Below W.heap.size W w') := by
    rintro W v e w' ⟨rfl, rfl⟩
    exact ⟨rfl, Below.refl _ _⟩
  by_cases hp : 512 ≤ a
  · exact ⟨0, 0, 60, trans_no w B a b hp ha, fun W _ => (transR_no a b hp ha).mono hd⟩
  · have ha' : a < 512 := by omega
    cases hm : m (a / 32) with
    | none => exact ⟨0, 0, 62, trans_un w B m a b h1 ha' hm, fun W hW => (transR_un (hk W hW) h3 a b ha' hm).mono hd⟩
    | some x =>
      obtain ⟨s, c⟩ := x
      by_cases hb : b = true → c = true
      · exact ⟨(s : Int), ((a % 32 : Nat) : Int), 0, trans_ok w B m a b h1 ha' s c hm hb, fun W hW => (transR_ok (hk W hW) h3 a s b c ha' hm hb).mono hd⟩
      · obtain ⟨rfl, rfl⟩ : b = true ∧ c = false := by cases b <;> cases c <;> simp at hb <;> exact ⟨rfl, rfl⟩
        exact ⟨0, 0, 63, trans_ro w B m a h1 ha' s hm, fun W hW => (transR_ro (hk W hW) h3 a s ha' hm).mono hd⟩
end
set_option maxRecDepth 100000 in
set_option maxHeartbeats 8000000 in
theorem looks_any {w : World} {B R : Nat} {H : Nat → Prop} (h : PrA B R w H) (o : Ost) (ha : o.ad < 4294967296) :
    Calls Try.prog 9 #[.agg #[bp B, rp' R], .agg o.cells.toArray] w fun e w' => e = .returned (.bool true) ∧ Below w.heap.size w w' := by
  obtain ⟨wB, hwB⟩ : ∃ wB, (w.alloc (.cells #[bp B, rp' R] 27)).alloc (.cells o.cells.toArray 34) = wB := ⟨_, rfl⟩
  have hbx : Below w.heap.size w wB := by rw [← hwB]; exact ((Below.refl _ _).alloc (Nat.le_refl _) _).alloc (by simp) _
  have hn2 : wB.heap[w.heap.size + 1]? = some (.cells o.cells.toArray 34 (0, 0)) := by
    rw [← hwB]
    have := heap_alloc_new (w.alloc (.cells #[bp B, rp' R] 27)) (.cells o.cells.toArray 34)
    simpa using this
  have hn1 : wB.heap[w.heap.size]? = some (.cells #[bp B, rp' R] 27 (0, 0)) := by
    rw [← hwB, Below.heap_alloc _ _ _ (by simp)]
    exact heap_alloc_new _ _
  obtain ⟨m, L, F, ⟨h1, h2, h3⟩, -, -⟩ := h
  have HTb := hide (h1.below hbx)
  have HRt := hide ((good_rt R L).keep h2 hbx.size (fun b hb => hbx.block b ((good_rt R L).lt h2 b hb)))
  have HAg := hide h3
  have HBx := hide hbx
  have HN1 := hide hn1
  have HN2 := hide hn2
  have HWB := hide hwB
  clear h1 h2 h3 hbx hn1 hn2 hwB
  go_enter Try.func9, Try.ntmps9
  go_upto_region 1 with fail
  show Code.wp _ _ _ _ ((w.alloc (.cells #[bp B, rp' R] 27)).alloc (.cells o.cells.toArray 34))
  rw [HWB.out]
  clear HWB
  obtain ⟨N, hN⟩ : ∃ N, w.heap.size = N := ⟨_, rfl⟩
  obtain ⟨N2, hN2⟩ : ∃ N2, w.heap.size + 1 = N2 := ⟨_, rfl⟩
  rw [hN2] at HN2
  rw [hN] at HN1
  have HC : Hid (∀ W : World, Below wB.heap.size wB W → W.cell? ⟨N, 0, none⟩ = some (bp B) ∧ W.cell? ⟨N, 1, none⟩ = some (rp' R) ∧ W.cell? ⟨N2, 0, none⟩ = some (.int .i64 o.kd) ∧ W.cell? ⟨N2, 2, none⟩ = some (.int .i64 o.v) ∧ W.cell? ⟨N2, 4, none⟩ = some (.bool o.b) ∧ W.cell? ⟨N2, 5, none⟩ = some (.int .u32 (o.ad : Nat))) := hide fun W hW => by
    have e1 := (hW.block N (Array.getElem?_eq_some_iff.1 HN1.out).1).trans HN1.out
    have e2 := (hW.block N2 (Array.getElem?_eq_some_iff.1 HN2.out).1).trans HN2.out
    exact ⟨by rw [cell_of_row _ _ _ _ _ _ e1]; rfl, by rw [cell_of_row _ _ _ _ _ _ e1]; rfl, by rw [cell_of_row _ _ _ _ _ _ e2]; rfl, by rw [cell_of_row _ _ _ _ _ _ e2]; rfl, by rw [cell_of_row _ _ _ _ _ _ e2]; rfl, by rw [cell_of_row _ _ _ _ _ _ e2]; rfl⟩
  obtain ⟨x0, x1, x2, x3, x4, x5⟩ := HC.out wB (Below.refl _ _)
  try rw [hN2]
  try rw [hN]
  by_cases k4 : o.kd = 4
  · rw [k4] at x2
    obtain ⟨p, q, r, c, hc1, hc2⟩ := look_entry HTb.out HRt.out HAg.out o.v
    have HC1 := hide hc1
    have HC2 := hide hc2
    clear hc1 hc2
    go_wp2_with fail
    refine HC1.out.mono ?_
    rintro e w1 ⟨rfl, hb1⟩
    have hA := heap_alloc_new w1 (.cells #[.bool p, .int .i64 q, .bool r] 59)
    have hb2 := hb1.alloc hb1.size (.cells #[.bool p, .int .i64 q, .bool r] 59)
    clear x0 x1 x2 x3 x4 x5
    go_upto_region 4 with fail
    generalize w1.alloc (.cells #[.bool p, .int .i64 q, .bool r] 59) = w2 at *
    generalize w1.heap.size = A at *
    obtain ⟨x0, x1, x2, x3, x4, x5⟩ := HC.out w2 hb2
    go_wp2_with fail
    refine (HC2.out w2 hb2).mono ?_
    rintro e w3 ⟨rfl, hb3⟩
    have hA3 := heap_alloc_new w3 (.cells #[.bool p, .int .i64 q, .bool r] 59)
    have hb4 := hb3.alloc hb3.size (.cells #[.bool p, .int .i64 q, .bool r] 59)
    have hA4 := (hb4.block A (Array.getElem?_eq_some_iff.1 hA).1).trans hA
    have HF := hide (HBx.out.trans ((hb2.trans (hb4.mono hb2.size)).mono HBx.out.size))
    clear x0 x1 x2 x3 x4 x5 hb1 hb2 hb3 hb4 hA HC HC1 HC2
    go_upto_region 5 with fail
    generalize w3.alloc (.cells #[.bool p, .int .i64 q, .bool r] 59) = w4 at *
    generalize w3.heap.size = A' at *
    have y0 : w4.cell? ⟨A, 0, none⟩ = some (.bool p) := by rw [cell_of_row _ _ _ _ _ _ hA4]; rfl
    have y1 : w4.cell? ⟨A, 1, none⟩ = some (.int .i64 q) := by rw [cell_of_row _ _ _ _ _ _ hA4]; rfl
    have y2 : w4.cell? ⟨A, 2, none⟩ = some (.bool r) := by rw [cell_of_row _ _ _ _ _ _ hA4]; rfl
    have z0 : w4.cell? ⟨A', 0, none⟩ = some (.bool p) := by rw [cell_of_row _ _ _ _ _ _ hA3]; rfl
    have z1 : w4.cell? ⟨A', 1, none⟩ = some (.int .i64 q) := by rw [cell_of_row _ _ _ _ _ _ hA3]; rfl
    have z2 : w4.cell? ⟨A', 2, none⟩ = some (.bool r) := by rw [cell_of_row _ _ _ _ _ _ hA3]; rfl
    clear hA3 hA4
    go_wp2
    go_ret
    exact ⟨rfl, HF.out⟩
  · by_cases k5 : o.kd = 5
    · rw [k5] at x2
      obtain ⟨s, t, c, hc1, hc2⟩ := look_trans HTb.out HRt.out HAg.out o.ad ha o.b
      have HC1 := hide hc1
      have HC2 := hide hc2
      clear hc1 hc2
      go_wp2_with fail
      refine HC1.out.mono ?_
      rintro e w1 ⟨rfl, hb1⟩
      clear x0 x1 x2 x3 x4 x5
      obtain ⟨x0, x1, x2, x3, x4, x5⟩ := HC.out w1 hb1
      go_wp2_with fail
      refine (HC2.out w1 hb1).mono ?_
      rintro e w3 ⟨rfl, hb3⟩
      have HF := hide (HBx.out.trans ((hb1.trans (hb3.mono hb1.size)).mono HBx.out.size))
      clear x0 x1 x2 x3 x4 x5 hb1 hb3 HC HC1 HC2
      go_wp2
      go_ret
      exact ⟨rfl, HF.out⟩
    · have b4 : (o.kd == 4) = false := by simp [k4]
      have b5 : (o.kd == 5) = false := by simp [k5]
      go_upto_region 10 with fail
      have HT0 : Hid (Below wB.heap.size wB wB.drew) := hide ⟨rfl, rfl, rfl, Nat.le_refl _, fun _ _ => rfl⟩
      refine wp_region_held_drew (S := fun W => Below wB.heap.size wB W) (by kernel_rfl) HT0.out (fun _ => ?_)
      generalize wB.drew = wq0 at *
      refine hd_take 0 (o := ⟨some 80, _, _, _, _, _⟩) (.pointer (some ⟨N, 0, none⟩)) (by kernel_rfl) (by kernel_rfl) (by kernel_rfl) rfl (by rfl) (fun W hSw => by go_simp) (fun _ _ _ h => h) HT0.out ?_
      simp only [Act.put, List.setIfInBounds_toArray, List.set_cons_zero, List.set_cons_succ]
      refine hd_take 1 (o := ⟨some 81, _, _, _, _, _⟩) (bp B) (by kernel_rfl) (by kernel_rfl) (by kernel_rfl) rfl (by rfl) (fun W hSw => by obtain ⟨x0, x1, x2, x3, x4, x5⟩ := HC.out W hSw; go_simp) (fun _ _ _ h => h) HT0.out ?_
      simp only [Act.put, List.setIfInBounds_toArray, List.set_cons_zero, List.set_cons_succ]
      refine hd_take 3 (o := ⟨some 83, _, _, _, _, _⟩) (.pointer (some ⟨N, 1, none⟩)) (by kernel_rfl) (by kernel_rfl) (by kernel_rfl) rfl (by rfl) (fun W hSw => by go_simp) (fun _ _ _ h => h) HT0.out ?_
      simp only [Act.put, List.setIfInBounds_toArray, List.set_cons_zero, List.set_cons_succ]
      refine hd_take 4 (o := ⟨some 84, _, _, _, _, _⟩) (rp' R) (by kernel_rfl) (by kernel_rfl) (by kernel_rfl) rfl (by rfl) (fun W hSw => by obtain ⟨x0, x1, x2, x3, x4, x5⟩ := HC.out W hSw; go_simp) (fun _ _ _ h => h) HT0.out ?_
      simp only [Act.put, List.setIfInBounds_toArray, List.set_cons_zero, List.set_cons_succ]
      refine hd_call 2 (o := ⟨some 82, _, _, _, _, _⟩) (by kernel_rfl) rfl (by rfl) (fun K hK => ?_)
      go_simp
      go_wp2_with (go_at_call 13; refine (entries_any _ B m (HTb.out.below HT0.out)).mono ?_; rintro e1 wq1 ⟨r1, rfl, hr1, hbq⟩)
      have HT1 := hide (HT0.out.trans (hbq.mono HT0.out.size))
      have HO1 := hide hr1
      have HBq1 := hide hbq
      clear hr1
      clear hbq
      refine hK _ _ HT1.out ?_
      clear hK K
      try simp only [Act.put, List.setIfInBounds_toArray, List.set_cons_zero, List.set_cons_succ]
      refine hd_call 5 (o := ⟨some 85, _, _, _, _, _⟩) (by kernel_rfl) rfl (by rfl) (fun K hK => ?_)
      go_simp
      go_wp2_with (go_at_call 15; refine (entriesR_any (m := m) ((good_rt R L).keep HRt.out HT1.out.size (fun b hb => HT1.out.block b ((good_rt R L).lt HRt.out b hb))) HAg.out).mono ?_; rintro e1 wq2 ⟨r2, rfl, hr2, hbq⟩)
      have HT2 := hide (HT1.out.trans (hbq.mono HT1.out.size))
      have HO2 := hide hr2
      have HO1b := hide (HO1.out.below hbq)
      clear hr2
      obtain ⟨a1, c1, h1s⟩ := HO1b.out.len
      obtain ⟨a2, c2, h2s⟩ := HO2.out.len
      subst h1s
      subst h2s
      clear hbq
      refine hK _ _ HT2.out ?_
      clear hK K
      try simp only [Act.put, List.setIfInBounds_toArray, List.set_cons_zero, List.set_cons_succ]
      refine hd_call 6 (o := ⟨some 86, _, _, _, _, _⟩) (by kernel_rfl) rfl (by rfl) (fun K hK => ?_)
      go_simp
      go_wp2_with (go_at_call 16; refine (sameMaps_eq _ a1 a2 (ents m 16).length c1 c2 _ _ HO1b.out.maps HO2.out.maps (fun _ _ => rfl) (by have := ents_len m 16; unfold maxLen; omega)).mono ?_; rintro e1 wq3 ⟨rfl, hbq⟩)
      have HT3 := hide (HT2.out.trans (hbq.mono HT2.out.size))
      clear hbq
      refine hK _ _ HT3.out ?_
      clear hK K
      try simp only [Act.put, List.setIfInBounds_toArray, List.set_cons_zero, List.set_cons_succ]
      refine hd_take 7 (o := ⟨some 4, _, _, _, _, _⟩) (.bool true) (by kernel_rfl) (by kernel_rfl) (by kernel_rfl) rfl (by rfl) (fun W hSw => by go_simp) (fun _ _ _ h => h) HT3.out ?_
      simp only [Act.put, List.setIfInBounds_toArray, List.set_cons_zero, List.set_cons_succ]
      refine wpAnyH_done (by kernel_rfl) ?_ _
      have HF := hide (HBx.out.trans (HT3.out.mono HBx.out.size))
      go_wp2
      go_ret
      exact ⟨rfl, HF.out⟩
end Go.Proofs.Ytmflohehnoghhaa
