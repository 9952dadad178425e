import Derived.Test.YtngmnlmagbfijabCG
namespace Go.Proofs.Ytngmnlmagbfijab
open Go.RowKit
theorem infoS : ∃ i, Try.prog.info? 74 = some i ∧ i.zero = some (.agg #[.int .i64 0, .int .i64 0, .int .i64 0]) ∧ i.size = 3 ∧ i.bytes = 24 := info_parts (by kernel_rfl)
section
variable (w : World)
set_option maxRecDepth 100000 in
set_option maxHeartbeats 16000000 in
theorem rtold_any (g kd : Nat) (Y : Nat → Prop) (L : List Rw) (last : Int) (hP : RfAt w Y g kd L last) (hl : L.length ≤ 4194304) :
    Calls Try.prog 19 #[.pointer (some ⟨g, 0, none⟩)] w fun e w' => ∃ v, e = .returned v ∧ Os w' w.heap.size v (L.map (shD kd last)) ∧ Below w.heap.size w w' := by
  obtain ⟨iS, hi, hz, hs, hb⟩ := infoS
  have HI := hide (And.intro hi (And.intro hz (And.intro hs hb)))
  clear hi hz hs hb
  obtain ⟨v, hR⟩ := hP
  obtain ⟨m, hm⟩ : ∃ m, L.length = m := ⟨_, rfl⟩
  obtain ⟨a, c, rfl⟩ : ∃ a c, v = .slice a m c := by
    obtain ⟨a, c, h⟩ := hR.shape
    exact ⟨a, c, by rw [h, hm]⟩
  have HR := hide hR
  have HM := hide hm
  rw [hm] at hl
  obtain ⟨c0, c1, c2⟩ := hR.c
  clear hR hm
  go_enter Try.func19, Try.ntmps19
  go_upto_region 3 with fail
  clear c0 c1 c2
  go_loopw [3, 4] (fun v i wr => ∃ q : Nat, q ≤ m ∧ i = .int .i64 (q : Nat) ∧ Hid (wr.ownsRow w.heap.size 74 3 v q (shs ((L.take q).map (shD kd last)))) ∧ Hid (Below w.heap.size w wr)) (fun _ i _ => m - (RowKit.intOf i).toNat)
  case atStart => exact ⟨0, by omega, rfl, hide ⟨rfl, .inl ⟨rfl, rfl⟩⟩, hide (Below.refl _ _)⟩
  case round =>
    obtain ⟨q, hq, rfl, HO, HB⟩ := hrel
    have HRq := hide (HR.out.below HB.out)
    obtain ⟨c0, c1, c2⟩ := HRq.out.c
    by_cases hlt : q < m
    · obtain ⟨x, hx⟩ : ∃ x, L[q]? = some x := ⟨L[q]'(by rw [HM.out]; exact hlt), List.getElem?_eq_getElem _⟩
      obtain ⟨r, rfl, _, _, d0, d1, d2, d3, _, _⟩ := HRq.out.at hx
      have hqi : (q : Int) < m := by omega
      have HT : Hid (shs ((L.take q).map (shD kd last)) ++ shL (shD kd last x) = shs ((L.take (q + 1)).map (shD kd last))) := hide (by
        obtain ⟨h1, h2⟩ := List.getElem?_eq_some_iff.1 hx
        rw [List.take_succ_eq_append_getElem h1, h2, List.map_append, ← shs_snoc]; rfl)
      have hwz := HB.out.size
      obtain ⟨av, cv, rfl⟩ := own_shape HO.out
      obtain ⟨xs, xw, xp, xb⟩ := x
      dsimp only at d0 d1 d2 d3
      clear hx
      obtain ⟨A, hA⟩ : ∃ A, wr.heap.size = A := ⟨_, rfl⟩
      have hb1 : Below wr.heap.size wr (wr.alloc (.cells #[.int .i64 xs, .int .i64 xw, .int .i64 xp, .bool xb] 69)) := (Below.refl _ _).alloc (Nat.le_refl _) _
      have HRow : Hid ((wr.alloc (.cells #[.int .i64 xs, .int .i64 xw, .int .i64 xp, .bool xb] 69)).heap[A]? = some (.cells #[.int .i64 xs, .int .i64 xw, .int .i64 xp, .bool xb] 69 (0, 0))) := hide (by rw [← hA]; exact heap_alloc_last _ _)
      have HB1 := hide (HB.out.trans (hb1.mono hwz))
      have HR1 := hide (HRq.out.below hb1)
      have HO1 := hide (World.ownsRow.alloc HO.out (.cells #[.int .i64 xs, .int .i64 xw, .int .i64 xp, .bool xb] 69))
      have hA1 : (wr.alloc (.cells #[.int .i64 xs, .int .i64 xw, .int .i64 xp, .bool xb] 69)).heap.size = A + 1 := by simp; exact hA
      clear hb1
      go_upto_region 6 with fail
      generalize wr.alloc (.cells #[.int .i64 xs, .int .i64 xw, .int .i64 xp, .bool xb] 69) = w1 at *
      clear hA c0 c1 c2 d0 d1 d2 d3 HO HB HRq hwz
      have d0 := cell_of_row _ _ 0 _ _ _ HRow.out
      have d1 := cell_of_row _ _ 1 _ _ _ HRow.out
      have d2 := cell_of_row _ _ 2 _ _ _ HRow.out
      simp only [List.getElem?_toArray, List.getElem?_cons_zero, List.getElem?_cons_succ] at d0 d1 d2
      have hA2 : A < w1.heap.size := by omega
      clear hA1
      obtain ⟨C, hC⟩ : ∃ C, w1.heap.size = C := ⟨_, rfl⟩
      have hb2 : Below w1.heap.size w1 (w1.alloc (.cells #[.int .i64 xs, .int .i64 xw, .int .i64 xp] 74)) := (Below.refl _ _).alloc (Nat.le_refl _) _
      have HRow2 : Hid ((w1.alloc (.cells #[.int .i64 xs, .int .i64 xw, .int .i64 xp] 74)).heap[C]? = some (.cells #[.int .i64 xs, .int .i64 xw, .int .i64 xp] 74 (0, 0))) := hide (by rw [← hC]; exact heap_alloc_last _ _)
      have HRowA : Hid ((w1.alloc (.cells #[.int .i64 xs, .int .i64 xw, .int .i64 xp] 74)).heap[A]? = some (.cells #[.int .i64 xs, .int .i64 xw, .int .i64 xp, .bool xb] 69 (0, 0))) := hide ((hb2.block A (by omega)).trans HRow.out)
      have HB2 := hide (HB1.out.trans (hb2.mono HB1.out.size))
      have HR2 := hide (HR1.out.below hb2)
      have HO2 := hide (World.ownsRow.alloc HO1.out (.cells #[.int .i64 xs, .int .i64 xw, .int .i64 xp] 74))
      have hC1 : (w1.alloc (.cells #[.int .i64 xs, .int .i64 xw, .int .i64 xp] 74)).heap.size = C + 1 := by simp; exact hC
      clear hb2
      go_upto_region 7 with fail
      generalize w1.alloc (.cells #[.int .i64 xs, .int .i64 xw, .int .i64 xp] 74) = w2 at *
      have HCl : Hid (w.heap.size ≤ C) := hide (by have := HB1.out.size; omega)
      have HCo : Hid (∀ b, (Value.slice av q cv).ownBlock = some b → b < C) := hide (fun b hb => by have := (World.ownsRow.lt HO1.out b hb).2; omega)
      clear hC d0 d1 d2 HO1 HB1 HR1 HRow hA2
      obtain ⟨c0, c1, c2⟩ := HR2.out.c
      have d0 := cell_of_row _ _ 0 _ _ _ HRowA.out
      simp only [List.getElem?_toArray, List.getElem?_cons_zero] at d0
      by_cases hk : kd = 1
      · have hk1 : ((kd : Int) == 1) = true := by simp; omega
        by_cases hs : xs = last
        · have hs1 : (xs == last) = true := by simpa using hs
          have HPp : Hid (psD kd last ⟨xs, xw, xp, xb⟩ = 1) := hide (by unfold psD; rw [if_pos ⟨hk, hs⟩])
          clear hk hs
          go_quiet (fail)
          have hf2 : (w2.drewN nq).frozen? ⟨C, 2, none⟩ = false := frozen_of_row (w2.drewN nq) _ _ _ _ HRow2.out
          have e2 : (w2.drewN nq).cell? ⟨C, 2, none⟩ = some (.int .i64 xp) := by have := cell_of_row (w2.drewN nq) _ 2 _ _ _ HRow2.out; simpa using this
          have HRowC : Hid (((w2.drewN nq).setCell ⟨C, 2, none⟩ (.int .i64 1)).heap[C]? = some (.cells #[.int .i64 xs, .int .i64 xw, .int .i64 1] 74 (0, 0))) := hide (by rw [heap_setCell_same _ C 2 _ _ _ (show (w2.drewN nq).heap[C]? = _ from HRow2.out)]; simp)
          have hCw : C < w2.heap.size := by omega
          have hCl : w.heap.size ≤ C := HCl.out
          have HB3 : Hid (Below w.heap.size w ((w2.drewN nq).setCell ⟨C, 2, none⟩ (.int .i64 1))) := hide ((HB2.out.trans (drewN_below _ _ nq)).setCell hCl _)
          have HO3 : Hid (((w2.drewN nq).setCell ⟨C, 2, none⟩ (.int .i64 1)).ownsRow w.heap.size 74 3 (.slice av q cv) q (shs ((L.take q).map (shD kd last)))) := hide (ownsRow_keepB HO2.out (fun b hb => heap_setCell_other _ _ _ _ (fun e => by have := HCo.out b hb; have e' : b = C := (by simpa using e); omega)))
          clear d0 c0 c1 c2 HO2 HB2 HR2 HRowA HRow2
          go_upto_region 9 with fail
          generalize (w2.drewN nq).setCell ⟨C, 2, none⟩ (.int .i64 1) = w3 at *
          have e0 := cell_of_row _ _ 0 _ _ _ HRowC.out
          have e1 := cell_of_row _ _ 1 _ _ _ HRowC.out
          have e2 := cell_of_row _ _ 2 _ _ _ HRowC.out
          simp only [List.getElem?_toArray, List.getElem?_cons_zero, List.getElem?_cons_succ] at e0 e1 e2
          have hwz := HB3.out.size
          go_wp2_with (refine wpList_append_own _ rfl (.tmp 45) (.tmp 47) 48 rfl w.heap.size 74 iS _ 3 24 Try.underlying48 HI.out.1 HI.out.2.1 HI.out.2.2.1 HI.out.2.2.2 rfl (by decide) _ q _ rfl (World.ownsRow.alloc HO3.out _) (⟨w3.heap.size, 0, none⟩) 1 1 [.int .i64 xs, .int .i64 xw, .int .i64 1] rfl rfl (cell_row_new _ #[.int .i64 xs, .int .i64 xw, .int .i64 1] _) (by simp [Value.oneCell']) (by unfold maxLen; omega) (by omega) (by simp; omega) ?_; intro v' w6 hown hg6 _)
          have HB6 : Hid (Below w.heap.size w w6) := hide ((HB3.out.alloc HB3.out.size _).grown hg6 (by simp; omega) (fun j hj => (World.ownsRow.lt HO3.out j hj).1))
          have HO6 := hide hown
          clear hg6 hown HO3
          go_roundw
          case rel => exact ⟨q + 1, by omega, by go_num, hide (by rw [← HT.out]; unfold shL shD; rw [HPp.out]; exact HO6.out), HB6⟩
          case measure => simp [RowKit.intOf]; omega
        · have hs1 : (xs == last) = false := by simpa using hs
          have HPp : Hid (psD kd last ⟨xs, xw, xp, xb⟩ = xp) := hide (by unfold psD; rw [if_neg (fun h => hs h.2)])
          clear hk hs
          go_quiet (fail)
          have HRowC : Hid ((w2.drewN nq).heap[C]? = some (.cells #[.int .i64 xs, .int .i64 xw, .int .i64 xp] 74 (0, 0))) := HRow2
          have HB3 : Hid (Below w.heap.size w (w2.drewN nq)) := hide (HB2.out.trans (drewN_below _ _ nq))
          have HO3 : Hid ((w2.drewN nq).ownsRow w.heap.size 74 3 (.slice av q cv) q (shs ((L.take q).map (shD kd last)))) := HO2
          clear d0 c0 c1 c2 HO2 HB2 HR2 HRowA HRow2
          generalize w2.drewN nq = w3 at *
          have e0 := cell_of_row _ _ 0 _ _ _ HRowC.out
          have e1 := cell_of_row _ _ 1 _ _ _ HRowC.out
          have e2 := cell_of_row _ _ 2 _ _ _ HRowC.out
          simp only [List.getElem?_toArray, List.getElem?_cons_zero, List.getElem?_cons_succ] at e0 e1 e2
          have hwz := HB3.out.size
          go_wp2_with (refine wpList_append_own _ rfl (.tmp 45) (.tmp 47) 48 rfl w.heap.size 74 iS _ 3 24 Try.underlying48 HI.out.1 HI.out.2.1 HI.out.2.2.1 HI.out.2.2.2 rfl (by decide) _ q _ rfl (World.ownsRow.alloc HO3.out _) (⟨w3.heap.size, 0, none⟩) 1 1 [.int .i64 xs, .int .i64 xw, .int .i64 xp] rfl rfl (cell_row_new _ #[.int .i64 xs, .int .i64 xw, .int .i64 xp] _) (by simp [Value.oneCell']) (by unfold maxLen; omega) (by omega) (by simp; omega) ?_; intro v' w6 hown hg6 _)
          have HB6 : Hid (Below w.heap.size w w6) := hide ((HB3.out.alloc HB3.out.size _).grown hg6 (by simp; omega) (fun j hj => (World.ownsRow.lt HO3.out j hj).1))
          have HO6 := hide hown
          clear hg6 hown HO3
          go_roundw
          case rel => exact ⟨q + 1, by omega, by go_num, hide (by rw [← HT.out]; unfold shL shD; rw [HPp.out]; exact HO6.out), HB6⟩
          case measure => simp [RowKit.intOf]; omega
      · have hk1 : ((kd : Int) == 1) = false := by simp; omega
        have HPp : Hid (psD kd last ⟨xs, xw, xp, xb⟩ = xp) := hide (by unfold psD; rw [if_neg (fun h => hk h.1)])
        clear hk
        go_quiet (fail)
        have HRowC : Hid ((w2.drewN nq).heap[C]? = some (.cells #[.int .i64 xs, .int .i64 xw, .int .i64 xp] 74 (0, 0))) := HRow2
        have HB3 : Hid (Below w.heap.size w (w2.drewN nq)) := hide (HB2.out.trans (drewN_below _ _ nq))
        have HO3 : Hid ((w2.drewN nq).ownsRow w.heap.size 74 3 (.slice av q cv) q (shs ((L.take q).map (shD kd last)))) := HO2
        clear d0 c0 c1 c2 HO2 HB2 HR2 HRowA HRow2
        generalize w2.drewN nq = w3 at *
        have e0 := cell_of_row _ _ 0 _ _ _ HRowC.out
        have e1 := cell_of_row _ _ 1 _ _ _ HRowC.out
        have e2 := cell_of_row _ _ 2 _ _ _ HRowC.out
        simp only [List.getElem?_toArray, List.getElem?_cons_zero, List.getElem?_cons_succ] at e0 e1 e2
        have hwz := HB3.out.size
        go_wp2_with (refine wpList_append_own _ rfl (.tmp 45) (.tmp 47) 48 rfl w.heap.size 74 iS _ 3 24 Try.underlying48 HI.out.1 HI.out.2.1 HI.out.2.2.1 HI.out.2.2.2 rfl (by decide) _ q _ rfl (World.ownsRow.alloc HO3.out _) (⟨w3.heap.size, 0, none⟩) 1 1 [.int .i64 xs, .int .i64 xw, .int .i64 xp] rfl rfl (cell_row_new _ #[.int .i64 xs, .int .i64 xw, .int .i64 xp] _) (by simp [Value.oneCell']) (by unfold maxLen; omega) (by omega) (by simp; omega) ?_; intro v' w6 hown hg6 _)
        have HB6 : Hid (Below w.heap.size w w6) := hide ((HB3.out.alloc HB3.out.size _).grown hg6 (by simp; omega) (fun j hj => (World.ownsRow.lt HO3.out j hj).1))
        have HO6 := hide hown
        clear hg6 hown HO3
        go_roundw
        case rel => exact ⟨q + 1, by omega, by go_num, hide (by rw [← HT.out]; unfold shL shD; rw [HPp.out]; exact HO6.out), HB6⟩
        case measure => simp [RowKit.intOf]; omega
    · obtain rfl : q = m := by omega
      have HF : Hid (Os wr w.heap.size u3 (L.map (shD kd last))) := hide (by
        have h9 := HO.out
        rw [List.take_of_length_le (by rw [HM.out]; exact Nat.le_refl _)] at h9
        unfold Os
        rw [List.length_map, HM.out]
        exact h9)
      go_wp2
      go_ret
      exact ⟨_, rfl, HF.out, HB.out⟩
end
end Go.Proofs.Ytngmnlmagbfijab
