import Derived.Test.YtnpklhjndominaaQ1
namespace Go.Proofs.Ytnpklhjndominaa
open Go.RowKit

section
variable {w : World} {R N : Nat} {lv wv : Value} {rl : List Rc} {ds es : List Value} {G : Nat → Prop} {D D' : Dsk} {F : Nat → Prop}
theorem RkAt.cells (h : RkAt w R lv wv rl ds es G D) : w.cell? ⟨R, 0, none⟩ = some lv ∧ w.cell? ⟨R, 1, none⟩ = some wv ∧ w.cell? ⟨R, 2, none⟩ = some (.int .i64 D.ar) ∧ w.cell? ⟨R, 3, none⟩ = some (.bool D.down) ∧ w.cell? ⟨R, 4, none⟩ = some (.int .i64 (D.acts : Int)) ∧ ∀ j, w.frozen? ⟨R, j, none⟩ = false :=
  ⟨by rw [cell_of_row _ _ _ _ _ _ h.top]; rfl, by rw [cell_of_row _ _ _ _ _ _ h.top]; rfl, by rw [cell_of_row _ _ _ _ _ _ h.top]; rfl, by rw [cell_of_row _ _ _ _ _ _ h.top]; rfl, by rw [cell_of_row _ _ _ _ _ _ h.top]; rfl, fun j => frozen_of_row _ _ _ _ _ h.top⟩
/-- the three numbers of the disk are set -/
theorem RkAt.turn (h : RkAt w R lv wv rl ds es G D) {w' : World} (hs : w.heap.size ≤ w'.heap.size) (hk : ∀ b, b ≠ R → w'.heap[b]? = w.heap[b]?) (ht : w'.heap[R]? = some (.cells #[lv, wv, .int .i64 D'.ar, .bool D'.down, .int .i64 (D'.acts : Int)] 48 (0, 0)))
    (hM : D'.M = D.M) (hc : D'.c = D.c) (hl : D'.left < 9223372036854775808) : RkAt w' R lv wv rl ds es G D' := by
  refine ⟨ht, h.lan.keep (fun b hb => hk b (fun e => ?_)), by rw [hc]; exact h.wai.keep (fun b hb => hk b (fun e => by subst e; exact hb.elim h.nR.2.1 h.nR.2.2)), h.nR, fun b hb => ⟨(h.nG b hb).1, (h.nG b hb).2.1, Nat.lt_of_lt_of_le (h.nG b hb).2.2 hs⟩, h.nL, by rw [hM]; exact h.med, hl⟩
  subst e; exact hb.elim h.nR.1 h.nR.2.2
theorem armR_any (h : RkA R D N w F) (z : Int) (hz : z < 9223372036854775808) : Calls Try.prog 20 #[tp R, .int .i64 z] w fun e w' =>
    (z < 0 ∧ e = .returned (.int .i64 1) ∧ w' = w) ∨ (0 ≤ z ∧ D.down = true ∧ e = .returned (.int .i64 42) ∧ w' = w) ∨ (0 ≤ z ∧ D.down = false ∧ e = .returned (.int .i64 0) ∧ RkA R (D.arm z.toNat) N w' F ∧ Ext F w F w') := by
  obtain ⟨lv, wv, rl, ds, es, G, h, hn, he⟩ := h
  obtain ⟨_, _, c2, c3, _, ff⟩ := h.cells
  have f2 := ff 2
  have HR := hide h
  clear h ff
  rcases Int.lt_or_le z 0 with h1 | h1
  · have hd : decide (z < 0) = true := by simp [h1]
    have H1 := hide h1
    clear h1
    go_enter Try.func20, Try.ntmps20
    go_wp2
    go_ret
    exact .inl ⟨H1.out, rfl, rfl⟩
  · have hd : decide (z < 0) = false := by simp; omega
    have H1 := hide h1
    clear h1
    cases hdn : D.down
    · rw [hdn] at c3
      have HD := hide hdn
      have HF : Hid (RkA R (D.arm z.toNat) N (w.setCell ⟨R, 2, none⟩ (.int .i64 z)) F ∧ Ext F w F (w.setCell ⟨R, 2, none⟩ (.int .i64 z))) := by
        refine hide ⟨⟨lv, wv, rl, ds, es, G, HR.out.turn (D' := D.arm z.toNat) (by simp [World.setCell]) (fun b hb => heap_setCell_other _ _ _ _ hb) ?_ rfl rfl (by show z.toNat < _; have := H1.out; omega), hn, he⟩, ⟨(Mod.refl _ _).setCell (.inl ((he R).2 (.inl rfl))) _, fun _ h => .inl h⟩⟩
        rw [heap_setCell_same _ R 2 _ _ _ HR.out.top]
        have h9 : (D.arm z.toNat).ar = z := by show (z.toNat : Int) = z; have := H1.out; omega
        rw [h9]; rfl
      clear hdn HR
      go_enter Try.func20, Try.ntmps20
      go_upto_region 6 with fail
      generalize w.setCell ⟨R, 2, none⟩ (.int .i64 z) = w3 at *
      go_wp2
      go_ret
      exact .inr (.inr ⟨H1.out, by first | exact HD.out | trivial, rfl, HF.out.1, HF.out.2⟩)
    · rw [hdn] at c3
      have HD := hide hdn
      clear hdn HR
      go_enter Try.func20, Try.ntmps20
      go_wp2
      go_ret
      exact .inr (.inl ⟨H1.out, by first | exact HD.out | trivial, rfl, rfl⟩)
theorem actR_no (h : RkA R D N w F) (hn : D.down = true ∨ (D.armed = true ∧ D.left = 0)) : Calls Try.prog 32 #[tp R] w fun e w' => e = .returned (.bool false) ∧ RkA R D.off N w' F ∧ Ext F w F w' := by
  obtain ⟨lv, wv, rl, ds, es, G, h, hN, he⟩ := h
  obtain ⟨_, _, c2, c3, _, ff⟩ := h.cells
  have f3 := ff 3
  have HR := hide h
  clear h ff
  cases hdn : D.down
  · rw [hdn] at c3
    obtain ⟨ha, hl⟩ : D.armed = true ∧ D.left = 0 := by
      rcases hn with hn | hn
      · rw [hdn] at hn; cases hn
      · exact hn
    have har : D.ar = 0 := by unfold Dsk.ar; rw [ha, hl]; rfl
    rw [har] at c2
    have HF : Hid (RkA R D.off N (w.setCell ⟨R, 3, none⟩ (.bool true)) F ∧ Ext F w F (w.setCell ⟨R, 3, none⟩ (.bool true))) := by
      refine hide ⟨⟨lv, wv, rl, ds, es, G, HR.out.turn (D' := D.off) (by simp [World.setCell]) (fun b hb => heap_setCell_other _ _ _ _ hb) ?_ rfl rfl HR.out.lft, hN, he⟩, ⟨(Mod.refl _ _).setCell (.inl ((he R).2 (.inl rfl))) _, fun _ h => .inl h⟩⟩
      rw [heap_setCell_same _ R 3 _ _ _ HR.out.top]; rfl
    clear hdn HR hn ha hl har
    go_enter Try.func32, Try.ntmps32
    go_upto_region 5 with fail
    generalize w.setCell ⟨R, 3, none⟩ (.bool true) = w3 at *
    go_wp2
    go_ret
    exact ⟨rfl, HF.out.1, HF.out.2⟩
  · rw [hdn] at c3
    have HF : Hid (RkA R D.off N w F ∧ Ext F w F w) := by
      rw [Dsk.off_of hdn]; exact hide ⟨⟨lv, wv, rl, ds, es, G, HR.out, hN, he⟩, Ext.refl _ _⟩
    clear hdn HR hn
    go_enter Try.func32, Try.ntmps32
    go_wp2
    go_ret
    exact ⟨rfl, HF.out.1, HF.out.2⟩
set_option maxHeartbeats 1600000 in
theorem actR_ok (h : RkA R D N w F) (hw : D.down = false) (hl : D.armed = true → D.left ≠ 0) (ha : D.acts < 1152921504606846976) : Calls Try.prog 32 #[tp R] w fun e w' => e = .returned (.bool true) ∧ RkA R D.acted N w' F ∧ Ext F w F w' := by
  obtain ⟨lv, wv, rl, ds, es, G, h, hN, he⟩ := h
  obtain ⟨_, _, c2, c3, c4, ff⟩ := h.cells
  have f2 := ff 2
  have f4 := ff 4
  have HR := hide h
  have hlt := h.lft
  clear h ff
  rw [hw] at c3
  have hRF := (he R).2 (.inl rfl)
  obtain ⟨A, hA⟩ : ∃ A, D.acts = A := ⟨_, rfl⟩
  cases harm : D.armed
  · have har : D.ar = -1 := by unfold Dsk.ar; rw [harm]; rfl
    rw [har] at c2
    rw [hA] at c4 ha
    have HF : Hid (RkA R D.acted N (w.setCell ⟨R, 4, none⟩ (.int .i64 ((A : Int) + 1))) F ∧ Ext F w F (w.setCell ⟨R, 4, none⟩ (.int .i64 ((A : Int) + 1)))) := by
      refine hide ⟨⟨lv, wv, rl, ds, es, G, HR.out.turn (D' := D.acted) (by simp [World.setCell]) (fun b hb => heap_setCell_other _ _ _ _ hb) ?_ rfl rfl ?_, hN, he⟩, ⟨(Mod.refl _ _).setCell (.inl hRF) _, fun _ h => .inl h⟩⟩
      · rw [heap_setCell_same _ R 4 _ _ _ HR.out.top]
        have h9 : D.acted.ar = D.ar := by show (if D.armed then _ else _) = _; rw [har, harm]; rfl
        have h8 : (D.acted.acts : Int) = (A : Int) + 1 := by show ((D.acts + 1 : Nat) : Int) = _; rw [hA]; omega
        rw [h9, h8]; rfl
      · show cond D.armed (D.left - 1) D.left < _; rw [harm]; exact hlt
    clear HR hl har harm hA
    go_enter Try.func32, Try.ntmps32
    go_upto_region 9 with fail
    generalize w.setCell ⟨R, 4, none⟩ (.int .i64 ((A : Int) + 1)) = w3 at *
    go_wp2
    go_ret
    exact ⟨rfl, HF.out.1, HF.out.2⟩
  · have hl0 := hl harm
    obtain ⟨L, hL⟩ : ∃ L, D.left = L := ⟨_, rfl⟩
    have har : D.ar = (L : Int) := by unfold Dsk.ar; rw [harm, hL]; rfl
    rw [har] at c2
    rw [hA] at c4 ha
    rw [hL] at hl0 hlt
    have HF : Hid (RkA R D.acted N ((w.setCell ⟨R, 2, none⟩ (.int .i64 ((L : Int) - 1))).setCell ⟨R, 4, none⟩ (.int .i64 ((A : Int) + 1))) F ∧ Ext F w F ((w.setCell ⟨R, 2, none⟩ (.int .i64 ((L : Int) - 1))).setCell ⟨R, 4, none⟩ (.int .i64 ((A : Int) + 1)))) := by
      refine hide ⟨⟨lv, wv, rl, ds, es, G, HR.out.turn (D' := D.acted) (by simp [World.setCell]) (fun b hb => by rw [heap_setCell_other _ _ _ _ hb, heap_setCell_other _ _ _ _ hb]) ?_ rfl rfl ?_, hN, he⟩, ⟨((Mod.refl _ _).setCell (.inl hRF) _).setCell (.inl hRF) _, fun _ h => .inl h⟩⟩
      · rw [heap_setCell_same _ R 4 _ _ _ (heap_setCell_same _ R 2 _ _ _ HR.out.top)]
        have h9 : D.acted.ar = (L : Int) - 1 := by show (if D.armed then (((cond D.armed (D.left - 1) D.left : Nat) : Int)) else _) = _; rw [harm, hL]; simp; omega
        have h8 : (D.acted.acts : Int) = (A : Int) + 1 := by show ((D.acts + 1 : Nat) : Int) = _; rw [hA]; omega
        rw [h9, h8]; rfl
      · show cond D.armed (D.left - 1) D.left < _; rw [harm, hL]; simp; omega
    have hd1 : decide ((L : Int) = 0) = false := by simp; omega
    have hd2 : ((L : Int) == 0) = false := by rw [beq_eq_false_iff_ne]; omega
    have hd3 : decide ((0 : Int) < (L : Int)) = true := by simp; omega
    have hd4 : (L == 0) = false := by simpa using hl0
    have hd5 : decide (0 < L) = true := by simp; omega
    clear HR hl har harm hA hL
    go_enter Try.func32, Try.ntmps32
    go_upto_region 9 with fail
    generalize (w.setCell ⟨R, 2, none⟩ (.int .i64 ((L : Int) - 1))).setCell ⟨R, 4, none⟩ (.int .i64 ((A : Int) + 1)) = w3 at *
    go_wp2
    go_ret
    exact ⟨rfl, HF.out.1, HF.out.2⟩
end
end Go.Proofs.Ytnpklhjndominaa
