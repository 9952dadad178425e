import Derived.Test.YtngmnlmagbfijabCC
namespace Go.Proofs.Ytngmnlmagbfijab
open Go.RowKit
theorem infoR : ∃ i, Try.prog.info? 69 = some i ∧ i.zero = some (.agg #[.int .i64 0, .int .i64 0, .int .i64 0, .bool false]) ∧ i.size = 4 ∧ i.bytes = 32 := info_parts (by kernel_rfl)
section
variable (w : World)
set_option maxRecDepth 100000 in
set_option maxHeartbeats 16000000 in
theorem row_any (g kd : Nat) (Y : Nat → Prop) (L : List Rw) (last : Int) (hP : RfAt w Y g kd L last) (k : Int) (hl : L.length ≤ 4194304) :
    Calls Try.prog 24 #[.pointer (some ⟨g, 0, none⟩), .int .i64 k] w fun e w' => e = .returned (.int .i64 (pos L k : Nat)) ∧ ∃ Y', RfAt w' Y' g kd (rowP L k) last ∧ Ext Y w Y' w' := by
  obtain ⟨iR, hi, hz, hs, hb⟩ := infoR
  have HI := hide (And.intro hi (And.intro hz (And.intro hs hb)))
  clear hi hz hs hb
  obtain ⟨v, hR⟩ := hP
  obtain ⟨m, hm⟩ : ∃ m, L.length = m := ⟨_, rfl⟩
  have HLn := hide hm
  obtain ⟨a, c, rfl⟩ : ∃ a c, v = .slice a m c := by
    obtain ⟨a, c, h⟩ := hR.shape
    exact ⟨a, c, by rw [h, hm]⟩
  rw [hm] at hl
  have HR := hide hR
  obtain ⟨c0, c1, c2⟩ := hR.c
  clear hR hm
  obtain ⟨ps, hps⟩ : ∃ p, pos L k = p := ⟨_, rfl⟩
  have HPs := hide hps
  rw [hps]
  clear hps
  go_enter Try.func24, Try.ntmps24
  go_upto_region 2 with fail
  go_loopw [5] (fun i wr => ∃ j : Nat, j ≤ m ∧ i = .int .i64 (j : Nat) ∧ Hid (∀ (q : Nat) (r : Rw), q < j → L[q]? = some r → r.se < k) ∧ wr = w) (fun i _ => m - (RowKit.intOf i).toNat)
  case atStart => exact ⟨0, by omega, rfl, hide (fun q r hq => by omega), rfl⟩
  case round =>
    obtain ⟨j, hj, rfl, HD, hwr⟩ := hrel
    have hwr' := hwr.symm
    clear hwr
    subst hwr'
    by_cases hlt : j < m
    · obtain ⟨x, hx⟩ : ∃ x, L[j]? = some x := ⟨L[j]'(by rw [HLn.out]; exact hlt), List.getElem?_eq_getElem _⟩
      obtain ⟨r, rfl, _, _, d0, _⟩ := HR.out.at hx
      have hji : (j : Int) < m := by omega
      have HX := hide hx
      obtain ⟨xs, hxs⟩ : ∃ xs, x.se = xs := ⟨_, rfl⟩
      have HXs := hide hxs
      rw [hxs] at d0
      clear hx hxs
      by_cases hs : xs < k
      · have HD2 : Hid (∀ (q : Nat) (r : Rw), q < j + 1 → L[q]? = some r → r.se < k) := hide (fun q r hq hr => by
          rcases Nat.lt_or_ge q j with h | h
          · exact HD.out q r h hr
          · obtain rfl : q = j := by omega
            rw [HX.out] at hr
            cases hr
            rw [HXs.out]; exact hs)
        go_wp2
        go_roundw
        case rel => exact ⟨j + 1, by omega, by go_num, HD2, trivial⟩
        case measure => simp [RowKit.intOf]; omega
      · have HPos : Hid (j = pos L k) := hide (pos_eq L k j HD.out (fun r hr => by rw [HX.out] at hr; cases hr; rw [HXs.out]; omega) (by rw [HLn.out]; omega))
        by_cases he : xs = k
        · have heb : (xs == k) = true := by simpa using he
          have HRo : Hid (rowP L k = L) := hide (rowP_old (r := x) (by rw [← HPos.out]; exact HX.out) (by rw [HXs.out]; exact he))
          obtain rfl : j = ps := HPos.out.trans HPs.out
          clear he
          go_wp2
          go_ret
          exact ⟨rfl, Y, by rw [HRo.out]; exact ⟨_, HR.out⟩, Mod.refl _ _, fun b hb => .inl hb⟩
        · have heb : (xs == k) = false := by simpa using he
          have HNe : Hid (∀ r, L[j]? = some r → r.se ≠ k) := hide (fun r hr => by rw [HX.out] at hr; cases hr; rw [HXs.out]; exact he)
          obtain rfl : j = ps := HPos.out.trans HPs.out
          clear he
          have hjl : j ≤ m := hj
          go_upto_region 8 with fail
          go_loopw [6, 7] (fun v i wr => ∃ q : Nat, q ≤ j ∧ i = .int .i64 (q : Nat) ∧ Hid (wr.ownsRow w.heap.size 69 4 v q (rws (L.take q))) ∧ Hid (Below w.heap.size w wr)) (fun _ i _ => j - (RowKit.intOf i).toNat)
          case atStart => exact ⟨0, by omega, rfl, hide ⟨rfl, .inl ⟨rfl, rfl⟩⟩, hide (Below.refl _ _)⟩
          case round =>
            obtain ⟨q, hq, rfl, HO, HB⟩ := hrel
            have HRq := hide (HR.out.below HB.out)
            obtain ⟨c0, c1, c2⟩ := HRq.out.c
            by_cases hlt : q < j
            · obtain ⟨x, hx⟩ : ∃ x, L[q]? = some x := ⟨L[q]'(by rw [HLn.out]; omega), List.getElem?_eq_getElem _⟩
              obtain ⟨r2, hr2, _, _, d0, d1, d2, d3, _, _⟩ := HRq.out.at hx
              cases hr2
              have hqi : (q : Int) < j := by omega
              have hqm : (q : Int) < m := by omega
              have HT : Hid (rws (L.take q) ++ rwL x = rws (L.take (q + 1))) := hide (by
                obtain ⟨h1, h2⟩ := List.getElem?_eq_some_iff.1 hx
                rw [List.take_succ_eq_append_getElem h1, h2, rws_snoc])
              have hwz := HB.out.size
              obtain ⟨av, cv, rfl⟩ := own_shape HO.out
              obtain ⟨xs, xw, xp, xb⟩ := x
              dsimp only at d0 d1 d2 d3
              clear hx
              go_wp2_with (refine wpList_append_own _ rfl (.tmp 55) (.tmp 63) 64 rfl w.heap.size 69 iR _ 4 32 Try.underlying64 HI.out.1 HI.out.2.1 HI.out.2.2.1 HI.out.2.2.2 rfl (by decide) _ q _ rfl (World.ownsRow.alloc HO.out _) (⟨wr.heap.size, 0, none⟩) 1 1 [.int .i64 xs, .int .i64 xw, .int .i64 xp, .bool xb] rfl rfl (cell_row_new _ #[.int .i64 xs, .int .i64 xw, .int .i64 xp, .bool xb] _) (by simp [Value.oneCell']) (by unfold maxLen; omega) (by omega) (by simp; omega) ?_; intro v' w6 hown hg6 _)
              have HB6 : Hid (Below w.heap.size w w6) := hide ((HB.out.alloc HB.out.size _).grown hg6 (by simp; omega) (fun j hj => (World.ownsRow.lt HO.out j hj).1))
              have HO6 := hide hown
              clear hg6 hown HO
              go_roundw
              case rel => exact ⟨q + 1, by omega, by go_num, hide (by rw [← HT.out]; exact HO6.out), HB6⟩
              case measure => simp [RowKit.intOf]; omega
            · obtain rfl : q = j := by omega
              have hwz := HB.out.size
              obtain ⟨av, cv, rfl⟩ := own_shape HO.out
              go_upto_region 13 with (refine wpList_append_own _ rfl (.tmp 65) (.tmp 68) 64 rfl w.heap.size 69 iR _ 4 32 Try.underlying64 HI.out.1 HI.out.2.1 HI.out.2.2.1 HI.out.2.2.2 rfl (by decide) _ q _ rfl (World.ownsRow.alloc HO.out _) (⟨wr.heap.size, 0, none⟩) 1 1 [.int .i64 k, .int .i64 1, .int .i64 0, .bool false] rfl rfl (cell_row_new _ #[.int .i64 k, .int .i64 1, .int .i64 0, .bool false] _) (by simp [Value.oneCell']) (by unfold maxLen; omega) (by omega) (by simp; omega) ?_; intro v' w6 hown hg6 _)
              have HB6 : Hid (Below w.heap.size w w6) := hide ((HB.out.alloc HB.out.size _).grown hg6 (by simp; omega) (fun j hj => (World.ownsRow.lt HO.out j hj).1))
              have HO6 : Hid (w6.ownsRow w.heap.size 69 4 v' (q + 1) (rws (L.take q ++ newR k :: (L.drop q).take 0))) := hide (by
                have : rws (L.take q ++ newR k :: (L.drop q).take 0) = rws (L.take q) ++ rwL (newR k) := by rw [List.take_zero, rws_snoc]
                rw [this]; exact hown)
              clear hg6 hown HO HB HRq c0 c1 c2 hwz
              go_loopw [6, 8] (fun v i wr => ∃ p : Nat, q + p ≤ m ∧ i = .int .i64 ((q + p : Nat) : Int) ∧ Hid (wr.ownsRow w.heap.size 69 4 v (q + 1 + p) (rws (L.take q ++ newR k :: (L.drop q).take p))) ∧ Hid (Below w.heap.size w wr)) (fun _ i _ => m - (RowKit.intOf i).toNat)
              case atStart => exact ⟨0, by omega, rfl, HO6, HB6⟩
              case round =>
                obtain ⟨p, hp, rfl, HO, HB⟩ := hrel
                have HRq := hide (HR.out.below HB.out)
                obtain ⟨c0, c1, c2⟩ := HRq.out.c
                by_cases hlt : q + p < m
                · obtain ⟨x, hx⟩ : ∃ x, L[q + p]? = some x := ⟨L[q + p]'(by rw [HLn.out]; omega), List.getElem?_eq_getElem _⟩
                  obtain ⟨r2, hr2, _, _, d0, d1, d2, d3, _, _⟩ := HRq.out.at hx
                  cases hr2
                  have hqi : ((q + p : Nat) : Int) < m := by omega
                  have hq0 : (0 : Int) ≤ ((q + p : Nat) : Int) := by omega
                  have hwi : IntKind.i64.wrap (((q + p : Nat) : Int) + 1) = ((q + (p + 1) : Nat) : Int) := by rw [show ((q + (p + 1) : Nat) : Int) = ((q + p : Nat) : Int) + 1 by omega]; exact wi _ (by omega) (by omega)
                  have HT : Hid (rws (L.take q ++ newR k :: (L.drop q).take p) ++ rwL x = rws (L.take q ++ newR k :: (L.drop q).take (p + 1))) := hide (by
                    have h1 : (L.drop q)[p]? = some x := by rw [List.getElem?_drop]; exact hx
                    obtain ⟨h2, h3⟩ := List.getElem?_eq_some_iff.1 h1
                    rw [List.take_succ_eq_append_getElem h2, h3, ← rws_snoc]
                    simp)
                  have hwz := HB.out.size
                  obtain ⟨av, cv, rfl⟩ := own_shape HO.out
                  obtain ⟨qp, hqp⟩ : ∃ z, q + p = z := ⟨_, rfl⟩
                  have HQp := hide hqp
                  rw [hqp] at d0 d1 d2 d3 hqi hq0 hwi ⊢
                  rw [show q + (p + 1) = qp + 1 by omega] at hwi
                  obtain ⟨xs, xw, xp, xb⟩ := x
                  dsimp only at d0 d1 d2 d3
                  clear hx hqp
                  go_wp2_with (refine wpList_append_own _ rfl (.tmp 80) (.tmp 88) 64 rfl w.heap.size 69 iR _ 4 32 Try.underlying64 HI.out.1 HI.out.2.1 HI.out.2.2.1 HI.out.2.2.2 rfl (by decide) _ (q + 1 + p) _ rfl (World.ownsRow.alloc HO.out _) (⟨wr.heap.size, 0, none⟩) 1 1 [.int .i64 xs, .int .i64 xw, .int .i64 xp, .bool xb] rfl rfl (cell_row_new _ #[.int .i64 xs, .int .i64 xw, .int .i64 xp, .bool xb] _) (by simp [Value.oneCell']) (by unfold maxLen; omega) (by omega) (by simp; omega) ?_; intro v' w7 hown hg6 _)
                  have HB7 : Hid (Below w.heap.size w w7) := hide ((HB.out.alloc HB.out.size _).grown hg6 (by simp; omega) (fun j hj => (World.ownsRow.lt HO.out j hj).1))
                  have HO7 := hide hown
                  clear hg6 hown HO
                  go_roundw
                  case rel => exact ⟨p + 1, by have := HQp.out; omega, by have := HQp.out; rw [show q + (p + 1) = qp + 1 by omega]; first | go_num | rfl, hide (by rw [← HT.out]; exact HO7.out), HB7⟩
                  case measure => have := HQp.out; simp [RowKit.intOf]; omega
                · obtain ⟨qp, hqp⟩ : ∃ z, q + p = z := ⟨_, rfl⟩
                  obtain rfl : qp = m := by omega
                  have hwz := HB.out.size
                  have HE : Hid (L.take q ++ newR k :: (L.drop q).take p = rowP L k) := hide (by
                    rw [rowP_new (by rw [← HPos.out]; exact HNe.out), ← HPos.out, List.take_of_length_le (l := L.drop q) (by rw [List.length_drop, HLn.out]; omega)])
                  obtain ⟨av, cv, rfl⟩ := own_shape HO.out
                  have HF : Hid (RfAt (wr.setCell ⟨g, 1, none⟩ (.slice av (q + 1 + p) cv)) (fun b => Y b ∨ (Value.slice av (q + 1 + p) cv).ownBlock = some b) g kd (rowP L k) last ∧ Ext Y w (fun b => Y b ∨ (Value.slice av (q + 1 + p) cv).ownBlock = some b) (wr.setCell ⟨g, 1, none⟩ (.slice av (q + 1 + p) cv))) := hide (by
                    have hlt := World.ownsRow.lt HO.out
                    have hgl : g < w.heap.size := HR.out.lt g HR.out.yg
                    have hln : (rowP L k).length = q + 1 + p := by rw [← HE.out]; simp only [List.length_append, List.length_take, List.length_cons, List.length_drop, HLn.out]; omega
                    have hm : Mod Y w (wr.setCell ⟨g, 1, none⟩ (.slice av (q + 1 + p) cv)) := (Mod.of_below HB.out).setCell (p := ⟨g, 1, none⟩) (.inl HR.out.yg) _
                    refine ⟨⟨_, ⟨?_, ?_, .inl HR.out.yg, fun b hb => .inr hb, fun b hb => ?_⟩⟩, ⟨hm, fun b hb => ?_⟩⟩
                    · rw [heap_setCell_same _ g 1 _ _ _ HRq.out.top]; simp
                    · rw [hln]
                      have h9 := ownsRow_keepB HO.out (w' := wr.setCell ⟨g, 1, none⟩ (.slice av (q + 1 + p) cv)) (fun b hb => heap_setCell_other _ _ _ _ (fun e => by have := (hlt b hb).1; have e' : b = g := (by simpa using e); omega))
                      rw [HE.out] at h9
                      exact own_low h9 (Nat.zero_le _)
                    · rcases hb with hb | hb
                      · have := HR.out.lt b hb; have := hm.size; omega
                      · have := (hlt b hb).2; simp [World.setCell]; exact this
                    · rcases hb with hb | hb
                      · exact .inl hb
                      · exact .inr (hlt b hb).1)
                  have hfz : wr.frozen? ⟨g, 1, none⟩ = false := frozen_of_row _ _ _ _ _ HRq.out.top
                  rw [hqp]
                  clear hqp HB6 HO6
                  go_wp2
                  go_ret
                  exact ⟨rfl, _, HF.out.1, HF.out.2⟩
    · have HJm : Hid (j = m) := hide (by omega)
      have HPos : Hid (j = pos L k) := hide (pos_eq L k j HD.out (fun r hr => by rw [List.getElem?_eq_none (by rw [HLn.out, HJm.out]; exact Nat.le_refl _)] at hr; cases hr) (by rw [HLn.out, HJm.out]; exact Nat.le_refl _))
      have HNe : Hid (∀ r, L[j]? = some r → r.se ≠ k) := hide (fun r hr => by rw [List.getElem?_eq_none (by rw [HLn.out, HJm.out]; exact Nat.le_refl _)] at hr; cases hr)
      obtain rfl : j = ps := HPos.out.trans HPs.out
      have hjm : ¬ (j : Int) < m := by omega
      have hjl : j ≤ m := hj
      go_upto_region 8 with fail
      go_loopw [6, 7] (fun v i wr => ∃ q : Nat, q ≤ j ∧ i = .int .i64 (q : Nat) ∧ Hid (wr.ownsRow w.heap.size 69 4 v q (rws (L.take q))) ∧ Hid (Below w.heap.size w wr)) (fun _ i _ => j - (RowKit.intOf i).toNat)
      case atStart => exact ⟨0, by omega, rfl, hide ⟨rfl, .inl ⟨rfl, rfl⟩⟩, hide (Below.refl _ _)⟩
      case round =>
        obtain ⟨q, hq, rfl, HO, HB⟩ := hrel
        have HRq := hide (HR.out.below HB.out)
        obtain ⟨c0, c1, c2⟩ := HRq.out.c
        by_cases hlt : q < j
        · obtain ⟨x, hx⟩ : ∃ x, L[q]? = some x := ⟨L[q]'(by rw [HLn.out]; omega), List.getElem?_eq_getElem _⟩
          obtain ⟨r2, hr2, _, _, d0, d1, d2, d3, _, _⟩ := HRq.out.at hx
          cases hr2
          have hqi : (q : Int) < j := by omega
          have hqm : (q : Int) < m := by omega
          have HT : Hid (rws (L.take q) ++ rwL x = rws (L.take (q + 1))) := hide (by
            obtain ⟨h1, h2⟩ := List.getElem?_eq_some_iff.1 hx
            rw [List.take_succ_eq_append_getElem h1, h2, rws_snoc])
          have hwz := HB.out.size
          obtain ⟨av, cv, rfl⟩ := own_shape HO.out
          obtain ⟨xs, xw, xp, xb⟩ := x
          dsimp only at d0 d1 d2 d3
          clear hx
          go_wp2_with (refine wpList_append_own _ rfl (.tmp 55) (.tmp 63) 64 rfl w.heap.size 69 iR _ 4 32 Try.underlying64 HI.out.1 HI.out.2.1 HI.out.2.2.1 HI.out.2.2.2 rfl (by decide) _ q _ rfl (World.ownsRow.alloc HO.out _) (⟨wr.heap.size, 0, none⟩) 1 1 [.int .i64 xs, .int .i64 xw, .int .i64 xp, .bool xb] rfl rfl (cell_row_new _ #[.int .i64 xs, .int .i64 xw, .int .i64 xp, .bool xb] _) (by simp [Value.oneCell']) (by unfold maxLen; omega) (by omega) (by simp; omega) ?_; intro v' w6 hown hg6 _)
          have HB6 : Hid (Below w.heap.size w w6) := hide ((HB.out.alloc HB.out.size _).grown hg6 (by simp; omega) (fun j hj => (World.ownsRow.lt HO.out j hj).1))
          have HO6 := hide hown
          clear hg6 hown HO
          go_roundw
          case rel => exact ⟨q + 1, by omega, by go_num, hide (by rw [← HT.out]; exact HO6.out), HB6⟩
          case measure => simp [RowKit.intOf]; omega
        · obtain rfl : q = j := by omega
          have hwz := HB.out.size
          obtain ⟨av, cv, rfl⟩ := own_shape HO.out
          go_upto_region 13 with (refine wpList_append_own _ rfl (.tmp 65) (.tmp 68) 64 rfl w.heap.size 69 iR _ 4 32 Try.underlying64 HI.out.1 HI.out.2.1 HI.out.2.2.1 HI.out.2.2.2 rfl (by decide) _ q _ rfl (World.ownsRow.alloc HO.out _) (⟨wr.heap.size, 0, none⟩) 1 1 [.int .i64 k, .int .i64 1, .int .i64 0, .bool false] rfl rfl (cell_row_new _ #[.int .i64 k, .int .i64 1, .int .i64 0, .bool false] _) (by simp [Value.oneCell']) (by unfold maxLen; omega) (by omega) (by simp; omega) ?_; intro v' w6 hown hg6 _)
          have HB6 : Hid (Below w.heap.size w w6) := hide ((HB.out.alloc HB.out.size _).grown hg6 (by simp; omega) (fun j hj => (World.ownsRow.lt HO.out j hj).1))
          have HO6 : Hid (w6.ownsRow w.heap.size 69 4 v' (q + 1) (rws (L.take q ++ newR k :: (L.drop q).take 0))) := hide (by
            have : rws (L.take q ++ newR k :: (L.drop q).take 0) = rws (L.take q) ++ rwL (newR k) := by rw [List.take_zero, rws_snoc]
            rw [this]; exact hown)
          clear hg6 hown HO HB HRq c0 c1 c2 hwz
          go_loopw [6, 8] (fun v i wr => ∃ p : Nat, q + p ≤ m ∧ i = .int .i64 ((q + p : Nat) : Int) ∧ Hid (wr.ownsRow w.heap.size 69 4 v (q + 1 + p) (rws (L.take q ++ newR k :: (L.drop q).take p))) ∧ Hid (Below w.heap.size w wr)) (fun _ i _ => m - (RowKit.intOf i).toNat)
          case atStart => exact ⟨0, by omega, rfl, HO6, HB6⟩
          case round =>
            obtain ⟨p, hp, rfl, HO, HB⟩ := hrel
            have HRq := hide (HR.out.below HB.out)
            obtain ⟨c0, c1, c2⟩ := HRq.out.c
            by_cases hlt : q + p < m
            · exact absurd hlt (by omega)
            · obtain ⟨qp, hqp⟩ : ∃ z, q + p = z := ⟨_, rfl⟩
              obtain rfl : qp = m := by omega
              have hwz := HB.out.size
              have HE : Hid (L.take q ++ newR k :: (L.drop q).take p = rowP L k) := hide (by
                rw [rowP_new (by rw [← HPos.out]; exact HNe.out), ← HPos.out, List.take_of_length_le (l := L.drop q) (by rw [List.length_drop, HLn.out]; omega)])
              obtain ⟨av, cv, rfl⟩ := own_shape HO.out
              have HF : Hid (RfAt (wr.setCell ⟨g, 1, none⟩ (.slice av (q + 1 + p) cv)) (fun b => Y b ∨ (Value.slice av (q + 1 + p) cv).ownBlock = some b) g kd (rowP L k) last ∧ Ext Y w (fun b => Y b ∨ (Value.slice av (q + 1 + p) cv).ownBlock = some b) (wr.setCell ⟨g, 1, none⟩ (.slice av (q + 1 + p) cv))) := hide (by
                have hlt := World.ownsRow.lt HO.out
                have hgl : g < w.heap.size := HR.out.lt g HR.out.yg
                have hln : (rowP L k).length = q + 1 + p := by rw [← HE.out]; simp only [List.length_append, List.length_take, List.length_cons, List.length_drop, HLn.out]; omega
                have hm : Mod Y w (wr.setCell ⟨g, 1, none⟩ (.slice av (q + 1 + p) cv)) := (Mod.of_below HB.out).setCell (p := ⟨g, 1, none⟩) (.inl HR.out.yg) _
                refine ⟨⟨_, ⟨?_, ?_, .inl HR.out.yg, fun b hb => .inr hb, fun b hb => ?_⟩⟩, ⟨hm, fun b hb => ?_⟩⟩
                · rw [heap_setCell_same _ g 1 _ _ _ HRq.out.top]; simp
                · rw [hln]
                  have h9 := ownsRow_keepB HO.out (w' := wr.setCell ⟨g, 1, none⟩ (.slice av (q + 1 + p) cv)) (fun b hb => heap_setCell_other _ _ _ _ (fun e => by have := (hlt b hb).1; have e' : b = g := (by simpa using e); omega))
                  rw [HE.out] at h9
                  exact own_low h9 (Nat.zero_le _)
                · rcases hb with hb | hb
                  · have := HR.out.lt b hb; have := hm.size; omega
                  · have := (hlt b hb).2; simp [World.setCell]; exact this
                · rcases hb with hb | hb
                  · exact .inl hb
                  · exact .inr (hlt b hb).1)
              have hfz : wr.frozen? ⟨g, 1, none⟩ = false := frozen_of_row _ _ _ _ _ HRq.out.top
              rw [hqp]
              clear hqp HB6 HO6
              go_wp2
              go_ret
              exact ⟨rfl, _, HF.out.1, HF.out.2⟩
end
end Go.Proofs.Ytngmnlmagbfijab
