import Derived.Test.YtnpklhjndominaaQ3
namespace Go.Proofs.Ytnpklhjndominaa
open Go.RowKit

theorem Ow.rebase {w : World} {g n cap base : Nat} {zs : List Nat} (h : Ow w 0 (.slice (some ⟨g, 0, none⟩) n cap) zs) (hb : base ≤ g) : Ow w base (.slice (some ⟨g, 0, none⟩) n cap) zs := by
  obtain ⟨hl, ⟨h0, _⟩ | ⟨g', cap', cur, hv', hb', r⟩⟩ := h
  · cases h0
  · cases hv'; exact ⟨hl, .inr ⟨g, cap, cur, rfl, hb, r⟩⟩
/-- a new sector of zeros -/
theorem made_sec (w : World) : ∃ Z : Array Value, (Instr.makeSlice 27 (.int .i64 128) (.int .i64 128)).run Try.prog w = .ok (.slice (some ⟨w.heap.size, 0, none⟩) 128 128) (w.alloc (.cells Z 5)) ∧ Ow (w.alloc (.cells Z 5)) 0 (.slice (some ⟨w.heap.size, 0, none⟩) 128 128) (List.replicate 128 0) := by
  obtain ⟨i5, hi, hz, hs, hb⟩ := info5'
  have hmk := run_make (P := Try.prog) w 27 5 i5 (.int .u8 0) Try.underlying27 hi hz .i64 .i64 128 128 (by omega) (Int.le_refl _) (by rw [hb]; omega) (by omega)
  rw [hs] at hmk
  refine ⟨_, hmk, ?_⟩
  have hZ : madeCells (Value.int .u8 0).cells ((128 : Int).toNat * 1) = ((List.replicate 128 0).map By).toArray := by
    rw [← Array.toArray_toList (xs := madeCells _ _)]
    simp [Value.cells, toList_madeCells_one, By]
  have := Ow.of_block (w := w.alloc (.cells (madeCells (Value.int .u8 0).cells ((128 : Int).toNat * 1)) 5)) (base := 0) (g := w.heap.size) (zs := List.replicate 128 0) (by rw [← hZ]; exact heap_alloc_new w _) (Nat.zero_le _) (by simp)
  rw [List.length_replicate] at this
  exact this
section
variable {w : World} {R N : Nat} {D : Dsk} {F : Nat → Prop}
theorem rawR_out (z : Int) (hz : z < 0 ∨ 1024 ≤ z) : Calls Try.prog 39 #[tp R, .int .i64 z] w fun e w' => e = .returned (.tuple #[.slice none 0 0, .int .i64 40]) ∧ w' = w := by
  have HT := hide (thereR_any z w)
  rw [show decide (0 ≤ z ∧ z < 1024) = false by simp; omega] at HT
  go_enter Try.func39, Try.ntmps39
  go_wp2_with fail
  refine HT.out.mono ?_
  rintro e w1 ⟨rfl, rfl⟩
  go_wp2
  go_ret2
  exact ⟨rfl, rfl⟩
theorem readR_out (z : Int) (hz : z < 0 ∨ 1024 ≤ z) : Calls Try.prog 37 #[tp R, .int .i64 z] w fun e w' => e = .returned (.tuple #[.slice none 0 0, .int .i64 40]) ∧ w' = w := by
  have HT := hide (thereR_any z w)
  rw [show decide (0 ≤ z ∧ z < 1024) = false by simp; omega] at HT
  go_enter Try.func37, Try.ntmps37
  go_wp2_with fail
  refine HT.out.mono ?_
  rintro e w1 ⟨rfl, rfl⟩
  go_wp2
  go_ret2
  exact ⟨rfl, rfl⟩
theorem readR_down (h : RkA R D N w F) (s : Nat) (hs : s < 1024) (hw : D.down = true) : Calls Try.prog 37 #[tp R, .int .i64 (s : Int)] w fun e w' => e = .returned (.tuple #[.slice none 0 0, .int .i64 42]) ∧ w' = w := by
  have HT := hide (thereR_any (s : Int) w)
  rw [show decide (0 ≤ (s : Int) ∧ (s : Int) < 1024) = true by simp; omega] at HT
  obtain ⟨lv, wv, rl, ds, es, G, h, _, he⟩ := h
  obtain ⟨_, _, _, c3, _, _⟩ := h.cells
  rw [hw] at c3
  clear h
  go_enter Try.func37, Try.ntmps37
  go_wp2_with fail
  refine HT.out.mono ?_
  rintro e w1 ⟨rfl, rfl⟩
  go_wp2
  go_ret2
  exact ⟨rfl, rfl⟩
set_option maxHeartbeats 1600000 in
theorem rawR_ok (h : RkA R D N w F) (hN : N ≤ 4000000) (s : Nat) (hs : s < 1024) : Calls Try.prog 39 #[tp R, .int .i64 (s : Int)] w fun e w' => ∃ r, e = .returned (.tuple #[r, .int .i64 0]) ∧ Ow w' w.heap.size r (D.M s) ∧ Below w.heap.size w w' := by
  have HT := hide (thereR_any (s : Int) w)
  rw [show decide (0 ≤ (s : Int) ∧ (s : Int) < 1024) = true by simp; omega] at HT
  obtain ⟨lv, wv, rl, ds, es, G, h, hn, he⟩ := h
  obtain ⟨Z, hmk, hOw⟩ := made_sec w
  have hb1 := (Below.refl w.heap.size w).alloc (Nat.le_refl _) (.cells Z 5)
  have h1 := h.keep (w' := w.alloc (.cells Z 5)) hb1.size (fun b hb => hb1.block b ((good_rk R D N).lt (H := F) ⟨lv, wv, rl, ds, es, G, h, hn, he⟩ b ((he b).2 hb)))
  have hlt := (good_rk R D N).lt (H := F) ⟨lv, wv, rl, ds, es, G, h, hn, he⟩
  have HP := hide (played_any _ w.heap.size 128 s (List.replicate 128 0) lv rl ds G hOw (by simp) h1.lan (by omega) (fun e => by have := hlt _ ((he _).2 (.inr (.inl e))); omega) (fun e => by have := hlt _ ((he _).2 (.inr (.inr (.inr e)))); omega) (fun b hb => (h1.nG b hb).2.2))
  have c0 := h1.cells.1
  have HM := hide (h.med s hs)
  have HB := hide hb1
  clear h h1 hOw hb1 hlt
  go_enter Try.func39, Try.ntmps39
  go_wp2_with fail
  refine HT.out.mono ?_
  rintro e w1 ⟨rfl, rfl⟩
  go_wp2_with fail
  refine HP.out.mono ?_
  rintro e w2 ⟨rfl, ho2, ha2⟩
  have HO2 := hide ho2
  have HA2 := hide ha2
  clear ho2 ha2
  go_wp2
  go_ret2
  refine ⟨_, rfl, ?_, ?_⟩
  · rw [HM.out]; exact HO2.out.rebase (Nat.le_refl _)
  · exact HB.out.trans ⟨HA2.out.os, HA2.out.tape, HA2.out.output, HA2.out.size, fun b hb => HA2.out.block b (Nat.lt_of_lt_of_le hb HB.out.size) (by omega)⟩
set_option maxHeartbeats 1600000 in
theorem readR_ok (h : RkA R D N w F) (hD : D.Ok) (hN : N ≤ 4000000) (hc : D.c.length ≤ 4000000) (s : Nat) (hs : s < 1024) (hw : D.down = false) : Calls Try.prog 37 #[tp R, .int .i64 (s : Int)] w fun e w' => ∃ r, e = .returned (.tuple #[r, .int .i64 0]) ∧ Ow w' w.heap.size r (D.seen s) ∧ Below w.heap.size w w' := by
  have HT := hide (thereR_any (s : Int) w)
  rw [show decide (0 ≤ (s : Int) ∧ (s : Int) < 1024) = true by simp; omega] at HT
  obtain ⟨lv, wv, rl, ds, es, G, h, hn, he⟩ := h
  obtain ⟨Z, hmk, hOw⟩ := made_sec w
  have hb1 := (Below.refl w.heap.size w).alloc (Nat.le_refl _) (.cells Z 5)
  have hlt := (good_rk R D N).lt (H := F) ⟨lv, wv, rl, ds, es, G, h, hn, he⟩
  have h1 := h.keep (w' := w.alloc (.cells Z 5)) hb1.size (fun b hb => hb1.block b (hlt b ((he b).2 hb)))
  have HP := hide (played_any _ w.heap.size 128 s (List.replicate 128 0) lv rl ds G hOw (by simp) h1.lan (by omega) (fun e => by have := hlt _ ((he _).2 (.inr (.inl e))); omega) (fun e => by have := hlt _ ((he _).2 (.inr (.inr (.inr e)))); omega) (fun b hb => (h1.nG b hb).2.2))
  have c0 := h1.cells.1
  have c3 := h.cells.2.2.2.1
  rw [hw] at c3
  have HM := hide (h.med s hs)
  have HB := hide hb1
  have H1 := hide h1
  have HLt := hide hlt
  have HE := hide he
  have hML : (D.M s).length = 128 := (hD.m s hs).1
  clear h h1 hOw hb1 hlt he
  go_enter Try.func37, Try.ntmps37
  go_wp2_with fail
  refine HT.out.mono ?_
  rintro e w1 ⟨rfl, rfl⟩
  go_wp2_with fail
  refine HP.out.mono ?_
  rintro e w2 ⟨rfl, ho2, ha2⟩
  have ho2' : Ow w2 0 (.slice (some ⟨w1.heap.size, 0, none⟩) 128 128) (D.M s) := by rw [HM.out]; exact ho2
  have h2 := H1.out.keep (w' := w2) ha2.size (fun b hb => by
    have := HLt.out b ((HE.out b).2 hb)
    exact ha2.block b (Nat.lt_of_lt_of_le this HB.out.size) (by omega))
  have c1 := h2.cells.2.1
  have HP2 := hide (played_any w2 w1.heap.size 128 s (D.M s) wv (lf D.c) es G ho2' hML h2.wai (by rw [lf_len]; exact hc) (fun e => by have := HLt.out _ ((HE.out _).2 (.inr (.inr (.inl e)))); omega) (fun e => by have := HLt.out _ ((HE.out _).2 (.inr (.inr (.inr e)))); omega) (fun b hb => (h2.nG b hb).2.2))
  have HB2 : Hid (Below w1.heap.size w1 w2) := hide (HB.out.trans ⟨ha2.os, ha2.tape, ha2.output, ha2.size, fun b hb => ha2.block b (Nat.lt_of_lt_of_le hb HB.out.size) (by omega)⟩)
  clear ho2 ha2 h2 HP ho2'
  go_wp2_with fail
  refine HP2.out.mono ?_
  rintro e w3 ⟨rfl, ho3, ha3⟩
  have HO3 := hide ho3
  have HA3 := hide ha3
  clear ho3 ha3
  go_wp2
  go_ret2
  refine ⟨_, rfl, ?_, ?_⟩
  · rw [show D.seen s = playR (fun _ => D.M s) (lf D.c) s by rw [playR_lf D.c (fun x hx => (hD.c x hx).2) s (fun _ => D.M s) hML]; exact play_at D.c s D.M (fun _ => D.M s) rfl]; exact HO3.out.rebase (Nat.le_refl _)
  · exact HB2.out.trans ⟨HA3.out.os, HA3.out.tape, HA3.out.output, HA3.out.size, fun b hb => HA3.out.block b (Nat.lt_of_lt_of_le hb HB2.out.size) (by omega)⟩
end
end Go.Proofs.Ytnpklhjndominaa
