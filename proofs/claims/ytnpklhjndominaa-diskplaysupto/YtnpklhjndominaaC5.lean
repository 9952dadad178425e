import Derived.Test.YtnpklhjndominaaC4
namespace Go.Proofs.Ytnpklhjndominaa
open Go.RowKit

theorem size5 : (Try.prog.info? 5).map (·.size) = some 1 := by kernel_rfl
theorem Ow.of_block {w : World} {base g : Nat} {zs : List Nat} (hg : w.heap[g]? = some (.cells (zs.map By).toArray 5 (0, 0))) (hb : base ≤ g) (hl : zs.length ≤ 140737488351232) :
    Ow w base (.slice (some ⟨g, 0, none⟩) zs.length zs.length) zs :=
  ⟨by simp, .inr ⟨g, _, _, rfl, hb, hg, Nat.le_refl _, by unfold maxLen; omega, by simp, by rw [Nat.mul_one]; exact List.take_of_length_le (by simp)⟩⟩
theorem splice_all {L cs : List Value} (h : L.length = cs.length) : splice L 0 cs = cs := by
  simp [splice, ← h]
set_option maxRecDepth 100000 in
set_option maxHeartbeats 400000 in
theorem copiedS_any (g o : Nat) (zs : List Nat) (w : World) (hr : w.rangeAt g o (zs.map By)) (hl : zs.length = 128) :
    Calls Try.prog 48 #[.pointer (some ⟨g, o, none⟩)] w fun e w' => ∃ r, e = .returned r ∧ Ow w' w.heap.size r zs ∧ Below w.heap.size w w' := by
  obtain ⟨i5, hi, hz, hs, hb⟩ := info5'
  have hmk := run_make (P := Try.prog) w 27 5 i5 (.int .u8 0) Try.underlying27 hi hz .i64 .i64 128 128 (by omega) (Int.le_refl _) (by rw [hb]; omega) (by omega)
  rw [hs] at hmk
  obtain ⟨Z, hZ⟩ : ∃ Z, madeCells (Value.int .u8 0).cells ((128 : Int).toNat * 1) = Z := ⟨_, rfl⟩
  rw [hZ] at hmk
  have hmk' : (Instr.makeSlice 27 (.int .i64 128) (.int .i64 128)).run Try.prog w = .ok (.slice (some ⟨w.heap.size, 0, none⟩) 128 128) (w.alloc (.cells Z 5)) := hmk
  clear hmk
  have hZl : Z.toList.length = 128 := by rw [← hZ, Array.length_toList]; simp [size_madeCells, Value.cells]
  have HR := hide hr
  have HL := hide hl
  clear hr hl hZ
  go_enter Try.func48, Try.ntmps48
  go_wp2_with (refine wpList_copy_splice rfl _ _ 27 27 rfl 5 Try.underlying27 size5 (some ⟨w.heap.size, 0, none⟩) (some ⟨g, o, none⟩) 128 128 128 128 rfl rfl w.heap.size 0 Z.toList 5 ?c0 (zs.map By) ?c1 ?c2 ?c3 (By_one zs) w.heap.size w ((Below.refl _ _).alloc (Nat.le_refl _) _) (Nat.le_refl _) ?_)
  case c0 => rw [Array.toArray_toList]; exact heap_alloc_last _ _
  case c1 => rw [List.length_map, HL.out]; rfl
  case c2 =>
    intro _ j a ha
    have h1 := HR.out j (By a) (by simp [ha])
    have h2 := World.block_lt_of_cell? w _ h1
    rw [((Below.refl _ _).alloc (Nat.le_refl _) _).cell h2]; exact h1
  case c3 => rw [List.length_map, HL.out, hZl]; omega
  intro w1 hg1 hb1
  go_wp2
  go_ret
  refine ⟨_, rfl, ?_, hb1⟩
  have hg2 := hg1.out
  rw [splice_all (by rw [hZl, List.length_map, HL.out])] at hg2
  have := Ow.of_block (base := w.heap.size) hg2 (Nat.le_refl _) (by rw [HL.out]; omega)
  rw [HL.out] at this; exact this
theorem read_ok {B : Nat} {D : Dsk} {w : World} {F : Nat → Prop} (hd : DkA B D w F) (s : Nat) (hs : s < 1024) (hw : D.down = false) :
    Calls Try.prog 36 #[dp B, .int .i64 (s : Int)] w fun e w' => ∃ r, e = .returned (.tuple #[r, .int .i64 0]) ∧ Ow w' w.heap.size r (D.seen s) ∧ Below w.heap.size w w' := by
  have HD := hide hd
  obtain ⟨cs, cv, h, he⟩ := hd
  have h1 := h.dwn
  rw [hw] at h1
  have hok := h.ok.seen hs
  have HO := hide hok
  clear h hok
  go_enter Try.func36, Try.ntmps36
  go_wp2_with fail
  refine (outside_in s _ hs).mono ?_
  rintro e w1 ⟨rfl, rfl⟩
  go_wp2_with fail
  refine (seen_any HD.out s hs).mono ?_
  rintro e w2 ⟨g, o, rfl, rfl, HR⟩
  go_wp2_with fail
  refine (copiedS_any g o _ _ HR.out HO.out.1).mono ?_
  rintro e w3 ⟨r, rfl, hr, hb⟩
  go_wp2
  go_ret2
  exact ⟨_, rfl, hr, hb⟩
theorem read_down {B : Nat} {D : Dsk} {w : World} {F : Nat → Prop} (hd : DkA B D w F) (s : Nat) (hs : s < 1024) (hw : D.down = true) :
    Calls Try.prog 36 #[dp B, .int .i64 (s : Int)] w fun e w' => e = .returned (.tuple #[.slice none 0 0, .int .i64 42]) ∧ w' = w := by
  obtain ⟨cs, cv, h, he⟩ := hd
  have h1 := h.dwn
  rw [hw] at h1
  clear h
  go_enter Try.func36, Try.ntmps36
  go_wp2_with fail
  refine (outside_in s _ hs).mono ?_
  rintro e w1 ⟨rfl, rfl⟩
  go_wp2
  go_ret2
  exact ⟨rfl, rfl⟩
theorem read_out (B : Nat) (z : Int) (w : World) (hz : z < 0 ∨ 1024 ≤ z) :
    Calls Try.prog 36 #[dp B, .int .i64 z] w fun e w' => e = .returned (.tuple #[.slice none 0 0, .int .i64 40]) ∧ w' = w := by
  go_enter Try.func36, Try.ntmps36
  go_wp2_with fail
  refine (outside_out z _ hz).mono ?_
  rintro e w1 ⟨rfl, rfl⟩
  go_wp2
  go_ret2
  exact ⟨rfl, rfl⟩
theorem raw_ok {B : Nat} {D : Dsk} {w : World} {F : Nat → Prop} (hd : DkA B D w F) (s : Nat) (hs : s < 1024) :
    Calls Try.prog 38 #[dp B, .int .i64 (s : Int)] w fun e w' => ∃ r, e = .returned (.tuple #[r, .int .i64 0]) ∧ Ow w' w.heap.size r (D.M s) ∧ Below w.heap.size w w' := by
  obtain ⟨cs, cv, h, he⟩ := hd
  have HR := hide (h.med hs)
  have HO := hide (h.ok.m s hs)
  clear h
  go_enter Try.func38, Try.ntmps38
  go_wp2_with fail
  refine (outside_in s _ hs).mono ?_
  rintro e w1 ⟨rfl, rfl⟩
  go_wp2_with fail
  refine (copiedS_any B (s * 128) _ _ HR.out HO.out.1).mono ?_
  rintro e w3 ⟨r, rfl, hr, hb⟩
  go_wp2
  go_ret2
  exact ⟨_, rfl, hr, hb⟩
theorem raw_out (B : Nat) (z : Int) (w : World) (hz : z < 0 ∨ 1024 ≤ z) :
    Calls Try.prog 38 #[dp B, .int .i64 z] w fun e w' => e = .returned (.tuple #[.slice none 0 0, .int .i64 40]) ∧ w' = w := by
  go_enter Try.func38, Try.ntmps38
  go_wp2_with fail
  refine (outside_out z _ hz).mono ?_
  rintro e w1 ⟨rfl, rfl⟩
  go_wp2
  go_ret2
  exact ⟨rfl, rfl⟩
end Go.Proofs.Ytnpklhjndominaa
