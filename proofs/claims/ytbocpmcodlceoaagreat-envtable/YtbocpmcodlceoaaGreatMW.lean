import Derived.Test.YtbocpmcodlceoaaGreatMS
import Derived.Test.YtbocpmcodlceoaaGreatMU
import Derived.Test.YtbocpmcodlceoaaGreatMV
namespace Go.Proofs.YtbocpmcodlceoaaGreat
open Go.ChangeShapes Go.WideShapes Go.ChangeAt Go.RowKit Go.Deep Go.Shelf

def ov (k e : Int) : Ov := ⟨k, 0, e, 0, 0, Qt.zero, fun _ => 0, 0, false⟩
theorem rest_any (w : World) (x : Int) : Calls Tryz.prog 6 #[.int .i64 x, .int .i64 2] w fun e w' => ∃ i : Nat, i < 2 ∧ e = .returned (.int .i64 (i : Int)) ∧ w' = w := by
  obtain ⟨y, hy⟩ : ∃ y, x.tmod 2 = y := ⟨_, rfl⟩
  have hy1 : -2 < y := by rw [← hy]; exact Int.lt_tmod_of_pos x (by omega)
  have hy2 : y < 2 := by rw [← hy]; exact Int.tmod_lt_of_pos x (by omega)
  have hw0 : IntKind.i64.wrap y = y := by rw [IntKind.wrap_i64]; omega
  by_cases h : y < 0
  · have d1 : decide (y < 0) = true := by simp; omega
    obtain ⟨i, hi⟩ : ∃ i : Nat, y + 2 = (i : Int) := ⟨(y + 2).toNat, by omega⟩
    have hw1 : IntKind.i64.wrap (y + 2) = (i : Int) := by rw [IntKind.wrap_i64]; omega
    go_enter Tryz.func6, Tryz.ntmps6
    go_wp2
    go_ret
    exact ⟨i, by omega, rfl, rfl⟩
  · have d1 : decide (y < 0) = false := by simp; omega
    obtain ⟨i, rfl⟩ : ∃ i : Nat, y = (i : Int) := ⟨y.toNat, by omega⟩
    go_enter Tryz.func6, Tryz.ntmps6
    go_wp2
    go_ret
    exact ⟨i, by omega, rfl, rfl⟩
section
variable {w : World} {F : Nat → Prop} {T R : Nat}
theorem makes_any (h : PrA T R w F) (o : Ov) (hk : o.kd = 2 ∨ o.kd = 3 ∨ o.kd = 11 ∨ o.kd = 12) : Calls Tryz.prog 8 #[.agg #[tp T, tp R], .agg o.cells.toArray] w fun x w' => x = .returned (.bool true) ∧ ∃ F', PrA T R w' F' ∧ Ext F w F' w' := by
  rcases hk with h1 | h1 | h1 | h1
  · exact makes_create h o h1
  · exact makes_destroy h o h1
  · exact makes_pay h o h1
  · exact makes_refund h o h1
theorem sets_any (h : PrA T R w F) (o : Ov) (hk : o.kd = 5 ∨ o.kd = 6 ∨ o.kd = 7 ∨ o.kd = 8 ∨ o.kd = 9 ∨ o.kd = 10) : Calls Tryz.prog 9 #[.agg #[tp T, tp R], .agg o.cells.toArray] w fun x w' => x = .returned (.bool true) ∧ ∃ F', PrA T R w' F' ∧ Ext F w F' w' := by
  rcases hk with h1 | h1 | h1 | h1 | h1 | h1
  · exact sets_regs h o h1
  · exact sets_state h o h1
  · exact sets_bits h o h1
  · exact sets_notify h o h1
  · exact sets_wait h o h1
  · exact sets_freeze h o h1
theorem looks_any (h : PrA T R w F) (o : Ov) (hk : o.kd = 4 ∨ o.kd = 13 ∨ o.kd = 14 ∨ o.kd = 15 ∨ o.kd = 16 ∨ o.kd = 17 ∨ o.kd = 18) : Calls Tryz.prog 10 #[.agg #[tp T, tp R], .agg o.cells.toArray] w fun x w' => x = .returned (.bool true) ∧ ∃ F', PrA T R w' F' ∧ Ext F w F' w' := by
  rcases hk with h1 | h1 | h1 | h1 | h1 | h1 | h1
  · exact looks_info h o h1
  · exact looks_children h o h1
  · exact looks_tree h o h1
  · exact looks_inside h o h1
  · exact looks_runs h o h1
  · exact looks_find h o h1
  · exact looks_live h o h1
set_option maxRecDepth 8000 in
set_option maxHeartbeats 3200000 in
theorem all_any (h : PrA T R w F) : Calls Tryz.prog 7 #[.agg #[tp T, tp R]] w fun x w' => x = .returned (.bool true) ∧ ∃ F', PrA T R w' F' ∧ Ext F w F' w' := by
  have hb1 := (Below.refl w.heap.size w).alloc (Nat.le_refl _) (.cells #[tp T, tp R] 27)
  have HI0 : Hid (∃ F', PrA T R (w.alloc (.cells #[tp T, tp R] 27)) F' ∧ Ext F w F' (w.alloc (.cells #[tp T, tp R] 27)) ∧ ¬ F' w.heap.size ∧ (w.alloc (.cells #[tp T, tp R] 27)).heap[w.heap.size]? = some (.cells #[tp T, tp R] 27 (0, 0))) := hide ⟨F, (good_pr T R).below h hb1, ext_below hb1, fun e => by have := (good_pr T R).lt h _ e; omega, heap_alloc_new _ _⟩
  clear hb1 h
  go_enter Tryz.func7, Tryz.ntmps7
  go_upto_region 2 with fail
  generalize w.alloc (.cells #[tp T, tp R] 27) = w1 at *
  generalize hA : w.heap.size = A at *
  clear hA
  go_loopw [3] (fun x wr => ∃ k : Nat, k ≤ 18 ∧ x = .int .i64 ((k : Int) - 1) ∧ Hid (∃ F', PrA T R wr F' ∧ Ext F w F' wr ∧ ¬ F' A ∧ wr.heap[A]? = some (.cells #[tp T, tp R] 27 (0, 0)))) (fun x _ => (17 - intOf x).toNat)
  case atStart => exact ⟨0, by omega, rfl, HI0⟩
  case round =>
  clear HI0
  obtain ⟨k, hk, rfl, HI1⟩ := hrel
  obtain ⟨z, hz⟩ : ∃ z : Int, (k : Int) - 1 = z := ⟨_, rfl⟩
  rw [hz]
  have a0 : wr.cell? ⟨A, 0, none⟩ = some (tp T) := by obtain ⟨_, _, _, _, h9⟩ := HI1.out; exact top_cell h9
  have a1 : wr.cell? ⟨A, 1, none⟩ = some (tp R) := by obtain ⟨_, _, _, _, h9⟩ := HI1.out; exact top_cell1 h9
  by_cases hlt : k < 18
  · have hd : decide (z ≤ 16) = true := by simp; omega
    have hzw : IntKind.i64.wrap (z + 1) = z + 1 := wrap64 _ (by omega) (by omega)
    have HZ : Hid (z + 1 = ((k + 1 : Nat) : Int) - 1) := hide (by omega)
    have HZb : Hid (-1 ≤ z ∧ z ≤ 16) := hide (by omega)
    clear hz
    obtain ⟨F1, hP1, hX1, hN1, hA1⟩ := HI1.out
    have HC1 := hide (looks_info hP1 (ov 4 z) rfl)
    have HT1 : Hid (∀ w9 F9, PrA T R w9 F9 → Ext F1 wr F9 w9 → ∃ F8, PrA T R w9 F8 ∧ Ext F w F8 w9 ∧ ¬ F8 A ∧ w9.heap[A]? = some (.cells #[tp T, tp R] 27 (0, 0))) := hide (fun w9 F9 q1 q2 => ⟨F9, q1, hX1.trans q2, fun e9 => by
      rcases q2.new A e9 with h9 | h9
      · exact hN1 h9
      · have := (Array.getElem?_eq_some_iff.1 hA1).1; omega, (q2.mod.block A (Array.getElem?_eq_some_iff.1 hA1).1 hN1).trans hA1⟩)
    clear hP1 hX1 hN1 hA1
    go_wp2_with fail
    refine HC1.out.mono ?_
    rintro x1 w2 ⟨rfl, F9, hp9, hx9⟩
    have HI2 : Hid (∃ F', PrA T R w2 F' ∧ Ext F w F' w2 ∧ ¬ F' A ∧ w2.heap[A]? = some (.cells #[tp T, tp R] 27 (0, 0))) := hide (HT1.out w2 F9 hp9 hx9)
    clear hp9 hx9 HT1 HC1
    clear a0 a1
    have a0 : w2.cell? ⟨A, 0, none⟩ = some (tp T) := by obtain ⟨_, _, _, _, h9⟩ := HI2.out; exact top_cell h9
    have a1 : w2.cell? ⟨A, 1, none⟩ = some (tp R) := by obtain ⟨_, _, _, _, h9⟩ := HI2.out; exact top_cell1 h9
    obtain ⟨F2, hP2, hX2, hN2, hA2⟩ := HI2.out
    have HC2 := hide (looks_children hP2 (ov 13 z) rfl)
    have HT2 : Hid (∀ w9 F9, PrA T R w9 F9 → Ext F2 w2 F9 w9 → ∃ F8, PrA T R w9 F8 ∧ Ext F w F8 w9 ∧ ¬ F8 A ∧ w9.heap[A]? = some (.cells #[tp T, tp R] 27 (0, 0))) := hide (fun w9 F9 q1 q2 => ⟨F9, q1, hX2.trans q2, fun e9 => by
      rcases q2.new A e9 with h9 | h9
      · exact hN2 h9
      · have := (Array.getElem?_eq_some_iff.1 hA2).1; omega, (q2.mod.block A (Array.getElem?_eq_some_iff.1 hA2).1 hN2).trans hA2⟩)
    clear hP2 hX2 hN2 hA2
    go_wp2_with fail
    refine HC2.out.mono ?_
    rintro x2 w3 ⟨rfl, F9, hp9, hx9⟩
    have HI3 : Hid (∃ F', PrA T R w3 F' ∧ Ext F w F' w3 ∧ ¬ F' A ∧ w3.heap[A]? = some (.cells #[tp T, tp R] 27 (0, 0))) := hide (HT2.out w3 F9 hp9 hx9)
    clear hp9 hx9 HT2 HC2
    clear a0 a1
    have a0 : w3.cell? ⟨A, 0, none⟩ = some (tp T) := by obtain ⟨_, _, _, _, h9⟩ := HI3.out; exact top_cell h9
    have a1 : w3.cell? ⟨A, 1, none⟩ = some (tp R) := by obtain ⟨_, _, _, _, h9⟩ := HI3.out; exact top_cell1 h9
    obtain ⟨F3, hP3, hX3, hN3, hA3⟩ := HI3.out
    have HC3 := hide (looks_runs hP3 (ov 16 z) rfl)
    have HT3 : Hid (∀ w9 F9, PrA T R w9 F9 → Ext F3 w3 F9 w9 → ∃ F8, PrA T R w9 F8 ∧ Ext F w F8 w9 ∧ ¬ F8 A ∧ w9.heap[A]? = some (.cells #[tp T, tp R] 27 (0, 0))) := hide (fun w9 F9 q1 q2 => ⟨F9, q1, hX3.trans q2, fun e9 => by
      rcases q2.new A e9 with h9 | h9
      · exact hN3 h9
      · have := (Array.getElem?_eq_some_iff.1 hA3).1; omega, (q2.mod.block A (Array.getElem?_eq_some_iff.1 hA3).1 hN3).trans hA3⟩)
    clear hP3 hX3 hN3 hA3
    go_wp2_with fail
    refine HC3.out.mono ?_
    rintro x3 w4 ⟨rfl, F9, hp9, hx9⟩
    have HI4 : Hid (∃ F', PrA T R w4 F' ∧ Ext F w F' w4 ∧ ¬ F' A ∧ w4.heap[A]? = some (.cells #[tp T, tp R] 27 (0, 0))) := hide (HT3.out w4 F9 hp9 hx9)
    clear hp9 hx9 HT3 HC3
    clear a0 a1
    go_wp2
    go_roundw
    case rel => first | exact ⟨k + 1, by omega, by rw [← HZ.out], HI4⟩ | ((repeat apply Exists.intro); refine ⟨?_, rfl⟩; exact ⟨k + 1, by omega, by rw [← HZ.out], HI4⟩)
    case measure => have := HZb.out; simp [intOf]; omega
  · have hd : decide (z ≤ 16) = false := by simp; omega
    clear hz
    obtain ⟨F1, hP1, hX1, hN1, hA1⟩ := HI1.out
    have HC1 := hide (looks_tree hP1 (ov 14 0) rfl)
    have HT1 : Hid (∀ w9 F9, PrA T R w9 F9 → Ext F1 wr F9 w9 → ∃ F8, PrA T R w9 F8 ∧ Ext F w F8 w9 ∧ ¬ F8 A ∧ w9.heap[A]? = some (.cells #[tp T, tp R] 27 (0, 0))) := hide (fun w9 F9 q1 q2 => ⟨F9, q1, hX1.trans q2, fun e9 => by
      rcases q2.new A e9 with h9 | h9
      · exact hN1 h9
      · have := (Array.getElem?_eq_some_iff.1 hA1).1; omega, (q2.mod.block A (Array.getElem?_eq_some_iff.1 hA1).1 hN1).trans hA1⟩)
    clear hP1 hX1 hN1 hA1
    go_wp2_with fail
    refine HC1.out.mono ?_
    rintro x1 w2 ⟨rfl, F9, hp9, hx9⟩
    have HI2 : Hid (∃ F', PrA T R w2 F' ∧ Ext F w F' w2 ∧ ¬ F' A ∧ w2.heap[A]? = some (.cells #[tp T, tp R] 27 (0, 0))) := hide (HT1.out w2 F9 hp9 hx9)
    clear hp9 hx9 HT1 HC1
    clear a0 a1
    have a0 : w2.cell? ⟨A, 0, none⟩ = some (tp T) := by obtain ⟨_, _, _, _, h9⟩ := HI2.out; exact top_cell h9
    have a1 : w2.cell? ⟨A, 1, none⟩ = some (tp R) := by obtain ⟨_, _, _, _, h9⟩ := HI2.out; exact top_cell1 h9
    obtain ⟨F2, hP2, hX2, hN2, hA2⟩ := HI2.out
    have HC2 := hide (looks_live hP2 (ov 18 0) rfl)
    have HT2 : Hid (∀ w9 F9, PrA T R w9 F9 → Ext F2 w2 F9 w9 → ∃ F8, PrA T R w9 F8 ∧ Ext F w F8 w9 ∧ ¬ F8 A ∧ w9.heap[A]? = some (.cells #[tp T, tp R] 27 (0, 0))) := hide (fun w9 F9 q1 q2 => ⟨F9, q1, hX2.trans q2, fun e9 => by
      rcases q2.new A e9 with h9 | h9
      · exact hN2 h9
      · have := (Array.getElem?_eq_some_iff.1 hA2).1; omega, (q2.mod.block A (Array.getElem?_eq_some_iff.1 hA2).1 hN2).trans hA2⟩)
    clear hP2 hX2 hN2 hA2
    go_wp2_with fail
    refine HC2.out.mono ?_
    rintro x2 w3 ⟨rfl, F9, hp9, hx9⟩
    have HI3 : Hid (∃ F', PrA T R w3 F' ∧ Ext F w F' w3 ∧ ¬ F' A ∧ w3.heap[A]? = some (.cells #[tp T, tp R] 27 (0, 0))) := hide (HT2.out w3 F9 hp9 hx9)
    clear hp9 hx9 HT2 HC2
    clear a0 a1
    obtain ⟨F9, hp9, hx9, -, -⟩ := HI3.out
    have HP := hide hp9
    have HX := hide hx9
    clear hp9 hx9
    go_wp2
    go_ret
    exact ⟨rfl, F9, HP.out, HX.out⟩
end
end Go.Proofs.YtbocpmcodlceoaaGreat

namespace Go.Proofs.YtbocpmcodlceoaaGreat
open Go.ChangeShapes Go.WideShapes Go.ChangeAt Go.RowKit Go.Deep Go.Shelf

/-- a block of its own -/
def BkA (C : Nat) (cs : List Value) (t : TypeId) : Asn := fun w H => w.heap[C]? = some (.cells cs.toArray t (0, 0)) ∧ ∀ b, H b ↔ b = C
theorem good_bk (C : Nat) (cs : List Value) (t : TypeId) : Good (BkA C cs t) := by
  refine ⟨?_, ?_⟩
  · rintro W H ⟨h, he⟩ b hb
    rw [(he b).1 hb]; exact (Array.getElem?_eq_some_iff.1 h).1
  · rintro W W' H ⟨h, he⟩ hs hk
    exact ⟨by rw [hk C ((he C).2 rfl)]; exact h, he⟩
theorem Sys.bk {w0 w : World} {A : Asn} (h : Sys w0 w A) (hA : Good A) (cs : List Value) (t : TypeId) : Sys w0 (w.alloc (.cells cs.toArray t)) (star (BkA w.heap.size cs t) A) :=
  h.new hA (Fc := fun b => b = w.heap.size) ⟨heap_alloc_new _ _, fun _ => Iff.rfl⟩ (fun b e => by rw [e]; exact Nat.le_refl _) ((Below.refl _ _).alloc (Nat.le_refl _) _)
theorem Sys.bkAt {w0 w : World} {C : Nat} {cs : List Value} {t : TypeId} {A : Asn} (h : Sys w0 w (star (BkA C cs t) A)) : w.heap[C]? = some (.cells cs.toArray t (0, 0)) := by
  obtain ⟨F, h1, _⟩ := h.head; exact h1
theorem Sys.bkSet {w0 w : World} {C j : Nat} {cs us : List Value} {t : TypeId} {A : Asn} (h : Sys w0 w (star (BkA C cs t) A)) (hA : Good A) : Sys w0 (w.setCells C j us) (star (BkA C (setsL cs j us) t) A) := by
  obtain ⟨F, h1, _, h3⟩ := h.call hA
  exact h3 _ F _ ⟨heap_setCells_row C t us j w cs h1.1, h1.2⟩ ⟨mod_sets (.inl ((h1.2 C).2 rfl)) us j w (Mod.refl _ _), fun _ h => .inl h⟩
def arr (T0 R0 T1 R1 : Nat) : List Value := [tp T0, tp R0, tp T1, tp R1]
/-- both pairs and the array that names them -/
def Full (C : Nat) : Asn := fun W H => ∃ T0 R0 T1 R1, star (PrA T0 R0) (star (PrA T1 R1) (BkA C (arr T0 R0 T1 R1) 31)) W H
theorem good_full (C : Nat) : Good (Full C) := by
  refine ⟨?_, ?_⟩
  · rintro W H ⟨T0, R0, T1, R1, h⟩
    exact ((good_pr T0 R0).star ((good_pr T1 R1).star (good_bk _ _ _))).lt h
  · rintro W W' H ⟨T0, R0, T1, R1, h⟩ hs hk
    exact ⟨T0, R0, T1, R1, ((good_pr T0 R0).star ((good_pr T1 R1).star (good_bk _ _ _))).keep h hs hk⟩
theorem Sys.full {w0 w : World} {C : Nat} (h : Sys w0 w (Full C)) : ∃ T0 R0 T1 R1, Sys w0 w (star (PrA T0 R0) (star (PrA T1 R1) (BkA C (arr T0 R0 T1 R1) 31))) := by
  obtain ⟨H, ⟨T0, R0, T1, R1, h1⟩, h2, h3⟩ := h
  exact ⟨T0, R0, T1, R1, H, h1, h2, h3⟩
theorem Sys.shut {w0 w : World} {C T0 R0 T1 R1 : Nat} (h : Sys w0 w (star (PrA T0 R0) (star (PrA T1 R1) (BkA C (arr T0 R0 T1 R1) 31)))) : Sys w0 w (Full C) := h.mono (fun _ _ h1 => ⟨T0, R0, T1, R1, h1⟩)
theorem Sys.back {w0 w : World} {X Y : Asn} (h : Sys w0 w (star X Y)) : Sys w0 w (star Y X) := h.mono (fun _ _ => star_comm)
theorem sys_perm {A B C : Asn} (W : World) (H : Nat → Prop) (h : star A (star B C) W H) : star C (star B A) W H := star_swap (star_mono (fun _ _ => star_comm) (star_swap h))
/-- one of the two pairs -/
theorem open_k {w0 w : World} {C k : Nat} (h : Sys w0 w (Full C)) (hk : k < 2) : ∃ (T R : Nat) (Rst : Asn), Good Rst ∧ Sys w0 w (star (PrA T R) Rst) ∧ w.cell? ⟨C, k * 2, none⟩ = some (tp T) ∧ w.cell? ⟨C, k * 2 + 1, none⟩ = some (tp R) ∧
    (∀ w', Sys w0 w' (star (PrA T R) Rst) → Sys w0 w' (Full C)) ∧ ∀ w' T' R', Sys w0 w' (star (PrA T' R') Rst) → (∃ cs : List Value, cs.length = 4 ∧ w'.heap[C]? = some (.cells cs.toArray 31 (0, 0))) ∧ ∃ Rst', Good Rst' ∧ Sys w0 (w'.setCells C (k * 2) [tp T', tp R']) (star (PrA T' R') Rst') ∧ ∀ w'', Sys w0 w'' (star (PrA T' R') Rst') → Sys w0 w'' (Full C) := by
  obtain ⟨T0, R0, T1, R1, h⟩ := h.full
  have hc := h.drop.back.bkAt
  obtain rfl | rfl : k = 0 ∨ k = 1 := by omega
  · refine ⟨T0, R0, _, (good_pr T1 R1).star (good_bk _ _ _), h, by rw [cell_of_row _ _ _ _ _ _ hc]; rfl, by rw [cell_of_row _ _ _ _ _ _ hc]; rfl, fun w' h' => h'.shut, fun w' T' R' h' => ⟨⟨_, rfl, h'.drop.back.bkAt⟩, star (PrA T1 R1) (BkA C (arr T' R' T1 R1) 31), (good_pr T1 R1).star (good_bk _ _ _), ?_, fun w'' h'' => h''.shut⟩⟩
    have h1 := (h'.mono (fun _ _ => star_assoc2)).back.bkSet (j := 0) (us := [tp T', tp R']) ((good_pr T' R').star (good_pr T1 R1))
    exact h1.back.mono (fun _ _ => star_assoc)
  · refine ⟨T1, R1, star (PrA T0 R0) (BkA C (arr T0 R0 T1 R1) 31), (good_pr T0 R0).star (good_bk _ _ _), h.swap, by rw [cell_of_row _ _ _ _ _ _ hc]; rfl, by rw [cell_of_row _ _ _ _ _ _ hc]; rfl, fun w' h' => h'.swap.shut, fun w' T' R' h' => ⟨⟨_, rfl, h'.drop.back.bkAt⟩, star (PrA T0 R0) (BkA C (arr T0 R0 T' R') 31), (good_pr T0 R0).star (good_bk _ _ _), ?_, fun w'' h'' => h''.swap.shut⟩⟩
    have h1 := (h'.mono (fun _ _ => star_assoc2)).back.bkSet (j := 2) (us := [tp T', tp R']) ((good_pr T' R').star (good_pr T0 R0))
    exact h1.back.mono (fun _ _ => star_assoc)
def freshO (w : World) (o : Ov) : World := (w.alloc (.cells Ov.nil.cells.toArray 37)).setCells w.heap.size 0 o.cells
theorem freshO_ob (w : World) (o : Ov) : (freshO w o).heap[w.heap.size]? = some (.cells o.cells.toArray 37 (0, 0)) := by
  have h1 := heap_setCells_row w.heap.size 37 o.cells 0 _ Ov.nil.cells (heap_alloc_new w (.cells Ov.nil.cells.toArray 37))
  rw [show setsL Ov.nil.cells 0 o.cells = o.cells by simp only [Ov.cells, setsL, List.set]] at h1
  exact h1
theorem freshO_below (w : World) (o : Ov) : Below w.heap.size w (freshO w o) := below_setCells ((Below.refl w.heap.size w).alloc (Nat.le_refl _) _) (Nat.le_refl _) _ _
theorem ov_one (o : Ov) : ∀ u ∈ o.cells, u.oneCell' = true := by
  intro u hu
  simp [Ov.cells] at hu
  rcases hu with rfl | rfl | rfl | rfl | rfl | rfl | rfl | rfl | rfl | rfl | rfl | rfl | rfl | rfl | rfl | rfl | rfl | rfl <;> rfl
theorem ov_hcell {W : World} {N : Nat} {o : Ov} (h : W.heap[N]? = some (.cells o.cells.toArray 37 (0, 0))) (j : Nat) (v : Value) (hv : o.cells[j]? = some v) : W.cell? ((⟨N, 0, none⟩ : Addr).add j) = some v := row_cells h j v hv
theorem loadOp (o : Ov) {ops : Array Oper} {rest : List Oper} {op : Oper} {a : Act} {w : World} {Q : Exit → Act → World → Prop} (hw : Region.wanted op (yielded ops a.tmps) = true) (x : Operand) (ho : op.op = .load 37 x) (ad : Addr)
    (hx : a.eval x = .pointer (some ad)) (hc : ∀ (j : Nat) (v : Value), o.cells[j]? = some v → w.cell? (ad.add j) = some v) (h : wpList Tryz.prog ops Q rest (a.put op.dst (.agg o.cells.toArray)) w) : wpList Tryz.prog ops Q (op :: rest) a w :=
  loadT Tryz.underlying37 rfl o.cells (by rw [ov_len]; exact infoOp) hw x ho ad hx hc h
theorem storeOp (o : Ov) {ops : Array Oper} {rest : List Oper} {op : Oper} {a : Act} {w : World} {Q : Exit → Act → World → Prop} (hw : Region.wanted op (yielded ops a.tmps) = true) (x y : Operand) (ho : op.op = .store 37 x y) (N : Nat)
    (hx : a.eval x = .pointer (some ⟨N, 0, none⟩)) (hy : a.eval y = .agg o.cells.toArray) (hc : w.heap[N]? = some (.cells Ov.nil.cells.toArray 37 (0, 0))) (h : wpList Tryz.prog ops Q rest (a.put op.dst undef) (w.setCells N 0 o.cells)) : wpList Tryz.prog ops Q (op :: rest) a w :=
  storeT o.cells (by rw [ov_len]; exact infoOp) (ov_one o) hw x y ho N 0 hx hy Ov.nil.cells hc (Nat.le_refl 18) h
set_option maxRecDepth 100000 in
set_option maxHeartbeats 12800000 in
theorem table_walk (a : Option Addr) (len cap : Nat) (O : Nat → Ov) (w : World) (hl : len ≤ maxLen) (hZ : IsOps w a len O) :
    Calls Tryz.prog 3 #[.slice a len cap] w fun x w' => x = .returned (.bool true) ∧ Below w.heap.size w w' := by
  have HZ := hide hZ
  unfold maxLen at hl
  clear hZ
  go_enter Tryz.func3, Tryz.ntmps3
  go_wp2_with fail
  refine (fixed_any w).mono ?_
  rintro x w1 ⟨rfl, hb1⟩
  have HS1 := hide ((Sys.start w).below good_emp hb1)
  clear hb1
  go_wp2_with fail
  refine (made_any w1 1 ⟨64, 15, 32⟩).mono ?_
  rintro x w2 ⟨T0, R0, F0, rfl, h1, h2, h3⟩
  have HS2 := hide (HS1.out.new good_emp (X := PrA T0 R0) h1 h2 h3)
  clear h1 h2 h3 HS1
  go_wp2_with fail
  refine (made_any w2 9 ⟨5, 40, 2⟩).mono ?_
  rintro x w3 ⟨T1, R1, F1, rfl, h1, h2, h3⟩
  have HS3 := hide (HS2.out.new ((good_pr T0 R0).star good_emp) (X := PrA T1 R1) h1 h2 h3)
  clear h1 h2 h3 HS2
  have HS4 : Hid (Sys w (w3.alloc (.cells #[tp T0, tp R0, tp T1, tp R1] 31)) (Full w3.heap.size)) := hide (by
    have h1 := HS3.out.bk ((good_pr T1 R1).star ((good_pr T0 R0).star good_emp)) (arr T0 R0 T1 R1) 31
    have h2 : Sys w (w3.alloc (.cells #[tp T0, tp R0, tp T1, tp R1] 31)) (star (PrA T0 R0) (star (PrA T1 R1) (BkA w3.heap.size (arr T0 R0 T1 R1) 31))) := by
      have h4 := (((h1.mono (fun _ _ => star_assoc2)).mono (fun _ _ => star_assoc2)).back).drop
      exact (h4.mono (fun _ _ => star_assoc)).mono sys_perm
    exact h2.shut)
  have a0 := (show (w3.alloc (.cells #[tp T0, tp R0, tp T1, tp R1] 31)).cell? ⟨w3.heap.size, 0, none⟩ = some (tp T0) by rw [cell_of_row _ _ _ _ _ _ (heap_alloc_new w3 (.cells #[tp T0, tp R0, tp T1, tp R1] 31))]; rfl)
  have a2 := (show (w3.alloc (.cells #[tp T0, tp R0, tp T1, tp R1] 31)).cell? ⟨w3.heap.size, 2, none⟩ = some (tp T1) by rw [cell_of_row _ _ _ _ _ _ (heap_alloc_new w3 (.cells #[tp T0, tp R0, tp T1, tp R1] 31))]; rfl)
  clear HS3
  go_upto_region 5 with fail
  generalize w3.alloc (.cells #[tp T0, tp R0, tp T1, tp R1] 31) = w4 at *
  generalize w3.heap.size = C at *
  go_upto_region 8 with fail
  clear a0 a2
  go_loopw [5] (fun x wr => ∃ j : Nat, j ≤ len ∧ x = .int .i64 (j : Int) ∧ Hid (Sys w wr (Full C))) (fun x _ => len - (intOf x).toNat)
  case atStart => exact ⟨0, by omega, rfl, HS4⟩
  case round =>
  clear HS4
  obtain ⟨j, hj, rfl, HS⟩ := hrel
  by_cases hlt : j < len
  · have hd : decide ((j : Int) < (len : Int)) = true := by simp; omega
    have hj3 : (j : Int) < (len : Int) := by omega
    obtain ⟨ad, rfl, hcl⟩ := HZ.out.below HS.out.bel j hlt
    have HCc := hide hcl
    clear hcl
    generalize O j = o at *
    have HS3 := hide (HS.out.below (good_full C) (freshO_below wr o))
    have HO3 := hide (freshO_ob wr o)
    have hz0 := heap_alloc_new wr (.cells Ov.nil.cells.toArray 37)
    have HZ0 := hide hz0
    clear hz0 HS
    go_upto_region 11 with (first | refine loadOp o ?lwA _ rfl (ad.add (j * 18)) ?lxA ?lcA ?_ | refine storeOp o ?swA _ _ rfl wr.heap.size ?sxA ?syA ?szA ?_)
    try (case lwA => rfl)
    try (case lxA => rfl)
    try (case lcA => exact HCc.out)
    try (case swA => rfl)
    try (case sxA => rfl)
    try (case syA => rfl)
    try (case szA => exact HZ0.out)
    show Code.wp _ _ _ _ (freshO wr o)
    generalize freshO wr o = w3 at *
    generalize wr.heap.size = N at *
    clear HZ0 HCc
    have c1 := ob_cell HO3.out (j := 1) rfl
    go_wp2_with fail
    refine (rest_any w3 o.t).mono ?_
    rintro x w4 ⟨k2, hk2, rfl, hw4⟩
    subst hw4
    clear c1
    obtain ⟨T, R, Rst, hG, hS, q0, q1, hcl, hnw⟩ := open_k HS3.out hk2
    have HG := hide hG
    have HCl := hide hcl
    have HNw := hide hnw
    have hk2i : (k2 : Int) < 2 := by omega
    have HPb := hide (hS.bk ((good_pr T R).star hG) [tp T, tp R] 27)
    have hbp := (Below.refl w4.heap.size w4).alloc (Nat.le_refl _) (.cells #[tp T, tp R] 27)
    have HO5 := hide ((hbp.block N (Array.getElem?_eq_some_iff.1 HO3.out).1).trans HO3.out)
    have HM5 := hide (heap_alloc_new w4 (.cells #[tp T, tp R] 27))
    have HMC : Hid (w4.heap.size ≠ C) := hide (by obtain ⟨T0, R0, T1, R1, hh⟩ := HS3.out.full; have := (Array.getElem?_eq_some_iff.1 hh.drop.back.bkAt).1; omega)
    have HNM : Hid (N ≠ w4.heap.size) := hide (fun e => by have := (Array.getElem?_eq_some_iff.1 HO3.out).1; omega)
    clear hG hS hcl hnw hbp HS3 HO3
    go_upto_region 13 with fail
    clear q0 q1
    show Code.wp _ _ _ _ (w4.alloc (.cells #[tp T, tp R] 27))
    generalize w4.alloc (.cells #[tp T, tp R] 27) = w5 at *
    generalize w4.heap.size = M at *
    have HS5 : Hid (Sys w w5 (star (PrA T R) Rst)) := hide HPb.out.drop
    have c0 := ob_cell HO5.out (j := 0) rfl
    have m0 := top_cell HM5.out
    have m1 := top_cell1 HM5.out
    by_cases hkd : o.kd = 1
    · rw [hkd] at c0
      have c3 := ob_cell HO5.out (j := 3) rfl
      have c5 := ob_cell HO5.out (j := 5) rfl
      have c6 := ob_cell HO5.out (j := 6) rfl
      have c7 := ob_cell HO5.out (j := 7) rfl
      clear HS5
      go_wp2_with fail
      refine (made_any w5 o.n o.q).mono ?_
      rintro x w6 ⟨T', R', F', rfl, hp', hl', hb'⟩
      have h6 := HPb.out.new ((good_bk _ _ _).star ((good_pr T R).star HG.out)) (X := PrA T' R') hp' hl' hb'
      have HS6 : Hid (Sys w w6 (star (BkA M [tp T, tp R] 27) (star (PrA T' R') Rst))) := hide h6.swap2.swap.drop.swap
      have hm6 := HS6.out.bkAt
      have m60 := top_cell hm6
      have m61 := top_cell1 hm6
      have f60 : w6.frozen? ⟨M, 0, none⟩ = false := frozen_of_row _ _ _ _ _ hm6
      have f61 : w6.frozen? ⟨M, 1, none⟩ = false := frozen_of_row _ _ _ _ _ hm6
      have HS7 : Hid (Sys w (w6.setCells M 0 [tp T', tp R']) (star (BkA M [tp T', tp R'] 27) (star (PrA T' R') Rst))) := hide (HS6.out.bkSet (j := 0) (us := [tp T', tp R']) ((good_pr T' R').star HG.out))
      clear hp' hl' hb' h6 hm6 HPb m0 m1 c3 c5 c6 c7 c0 HS6 HM5 HO5
      go_upto_region 17 with fail
      clear m60 m61 f60 f61
      show Code.wp _ _ _ _ (w6.setCells M 0 [tp T', tp R'])
      generalize w6.setCells M 0 [tp T', tp R'] = w7 at *
      have hm7 := HS7.out.bkAt
      have m70 := top_cell hm7
      have m71 := top_cell1 hm7
      obtain ⟨⟨cs, hcs, hC⟩, Rst', hG', hS8, hcl8⟩ := HNw.out w7 T' R' HS7.out.drop
      have hMC : M ≠ C := HMC.out
      have HM8 : Hid ((w7.setCells C (k2 * 2) [tp T', tp R']).heap[M]? = some (.cells #[tp T', tp R'] 27 (0, 0))) := hide (by rw [heap_setCells_other _ _ hMC]; exact hm7)
      have g0 : ∃ u, w7.cell? ⟨C, k2 * 2, none⟩ = some u := ⟨cs[k2 * 2]'(by omega), by rw [cell_of_row _ _ _ _ _ _ hC]; simp⟩
      have g1 : ∃ u, w7.cell? ⟨C, k2 * 2 + 1, none⟩ = some u := ⟨cs[k2 * 2 + 1]'(by omega), by rw [cell_of_row _ _ _ _ _ _ hC]; simp⟩
      obtain ⟨u0, g0⟩ := g0
      obtain ⟨u1, g1⟩ := g1
      have z0 : w7.frozen? ⟨C, k2 * 2, none⟩ = false := frozen_of_row _ _ _ _ _ hC
      have z1 : w7.frozen? ⟨C, k2 * 2 + 1, none⟩ = false := frozen_of_row _ _ _ _ _ hC
      have HS8 := hide hS8
      have HG8 := hide hG'
      have HCl8 := hide hcl8
      clear hm7 hC hS8 hG' hcl8 HS7 hMC hcs
      go_upto_region 18 with fail
      clear g0 g1 z0 z1 m70 m71
      show Code.wp _ _ _ _ (w7.setCells C (k2 * 2) [tp T', tp R'])
      generalize w7.setCells C (k2 * 2) [tp T', tp R'] = w8 at *
      have m80 := top_cell HM8.out
      have m81 := top_cell1 HM8.out
      obtain ⟨F, hp, -, hnx⟩ := HS8.out.call HG8.out
      have HC := hide (all_any hp)
      have HNx := hide hnx
      clear hp hnx HS8
      go_wp2_with fail
      refine HC.out.mono ?_
      rintro x w9 ⟨rfl, F', hp', hx'⟩
      have HS9 := hide (HCl8.out w9 (HNx.out w9 F' (PrA T' R') hp' hx'))
      clear hp' hx' HC HNx m80 m81 HM8
      go_wp2
      go_roundw
      case rel => first | exact ⟨j + 1, by omega, by go_num, HS9⟩ | ((repeat apply Exists.intro); refine ⟨?_, rfl⟩; exact ⟨j + 1, by omega, by go_num, HS9⟩)
      case measure => simp [intOf]; omega
    by_cases hkd : o.kd = 2
    · rw [hkd] at c0
      go_upto_region 23 with fail
      obtain ⟨F, hp, -, hnx⟩ := HS5.out.call HG.out
      have HC := hide (makes_any hp o (by simp [hkd]))
      have HNx := hide hnx
      clear hp hnx c0 HS5
      go_wp2_with (refine loadOp o ?q2w _ rfl ⟨N, 0, none⟩ ?q2x (ov_hcell HO5.out) ?_; rotate_left 2)
      try (case q2w => rfl)
      try (case q2x => rfl)
      refine HC.out.mono ?_
      rintro x w7 ⟨rfl, F', hp', hx'⟩
      have HS7 := hide (HCl.out w7 (HNx.out w7 F' (PrA T R) hp' hx'))
      clear hp' hx' HC HNx HO5 HM5 m0 m1
      go_wp2
      go_roundw
      case rel => first | exact ⟨j + 1, by omega, by go_num, HS7⟩ | ((repeat apply Exists.intro); refine ⟨?_, rfl⟩; exact ⟨j + 1, by omega, by go_num, HS7⟩)
      case measure => simp [intOf]; omega
    by_cases hkd : o.kd = 3
    · rw [hkd] at c0
      go_upto_region 23 with fail
      obtain ⟨F, hp, -, hnx⟩ := HS5.out.call HG.out
      have HC := hide (makes_any hp o (by simp [hkd]))
      have HNx := hide hnx
      clear hp hnx c0 HS5
      go_wp2_with (refine loadOp o ?q3w _ rfl ⟨N, 0, none⟩ ?q3x (ov_hcell HO5.out) ?_; rotate_left 2)
      try (case q3w => rfl)
      try (case q3x => rfl)
      refine HC.out.mono ?_
      rintro x w7 ⟨rfl, F', hp', hx'⟩
      have HS7 := hide (HCl.out w7 (HNx.out w7 F' (PrA T R) hp' hx'))
      clear hp' hx' HC HNx HO5 HM5 m0 m1
      go_wp2
      go_roundw
      case rel => first | exact ⟨j + 1, by omega, by go_num, HS7⟩ | ((repeat apply Exists.intro); refine ⟨?_, rfl⟩; exact ⟨j + 1, by omega, by go_num, HS7⟩)
      case measure => simp [intOf]; omega
    by_cases hkd : o.kd = 11
    · rw [hkd] at c0
      go_upto_region 23 with fail
      obtain ⟨F, hp, -, hnx⟩ := HS5.out.call HG.out
      have HC := hide (makes_any hp o (by simp [hkd]))
      have HNx := hide hnx
      clear hp hnx c0 HS5
      go_wp2_with (refine loadOp o ?q11w _ rfl ⟨N, 0, none⟩ ?q11x (ov_hcell HO5.out) ?_; rotate_left 2)
      try (case q11w => rfl)
      try (case q11x => rfl)
      refine HC.out.mono ?_
      rintro x w7 ⟨rfl, F', hp', hx'⟩
      have HS7 := hide (HCl.out w7 (HNx.out w7 F' (PrA T R) hp' hx'))
      clear hp' hx' HC HNx HO5 HM5 m0 m1
      go_wp2
      go_roundw
      case rel => first | exact ⟨j + 1, by omega, by go_num, HS7⟩ | ((repeat apply Exists.intro); refine ⟨?_, rfl⟩; exact ⟨j + 1, by omega, by go_num, HS7⟩)
      case measure => simp [intOf]; omega
    by_cases hkd : o.kd = 12
    · rw [hkd] at c0
      go_upto_region 23 with fail
      obtain ⟨F, hp, -, hnx⟩ := HS5.out.call HG.out
      have HC := hide (makes_any hp o (by simp [hkd]))
      have HNx := hide hnx
      clear hp hnx c0 HS5
      go_wp2_with (refine loadOp o ?q12w _ rfl ⟨N, 0, none⟩ ?q12x (ov_hcell HO5.out) ?_; rotate_left 2)
      try (case q12w => rfl)
      try (case q12x => rfl)
      refine HC.out.mono ?_
      rintro x w7 ⟨rfl, F', hp', hx'⟩
      have HS7 := hide (HCl.out w7 (HNx.out w7 F' (PrA T R) hp' hx'))
      clear hp' hx' HC HNx HO5 HM5 m0 m1
      go_wp2
      go_roundw
      case rel => first | exact ⟨j + 1, by omega, by go_num, HS7⟩ | ((repeat apply Exists.intro); refine ⟨?_, rfl⟩; exact ⟨j + 1, by omega, by go_num, HS7⟩)
      case measure => simp [intOf]; omega
    by_cases hkd : o.kd = 5
    · rw [hkd] at c0
      go_upto_region 30 with fail
      obtain ⟨F, hp, -, hnx⟩ := HS5.out.call HG.out
      have HC := hide (sets_any hp o (by simp [hkd]))
      have HNx := hide hnx
      clear hp hnx c0 HS5
      go_wp2_with (refine loadOp o ?q5w _ rfl ⟨N, 0, none⟩ ?q5x (ov_hcell HO5.out) ?_; rotate_left 2)
      try (case q5w => rfl)
      try (case q5x => rfl)
      refine HC.out.mono ?_
      rintro x w7 ⟨rfl, F', hp', hx'⟩
      have HS7 := hide (HCl.out w7 (HNx.out w7 F' (PrA T R) hp' hx'))
      clear hp' hx' HC HNx HO5 HM5 m0 m1
      go_wp2
      go_roundw
      case rel => first | exact ⟨j + 1, by omega, by go_num, HS7⟩ | ((repeat apply Exists.intro); refine ⟨?_, rfl⟩; exact ⟨j + 1, by omega, by go_num, HS7⟩)
      case measure => simp [intOf]; omega
    by_cases hkd : o.kd = 6
    · rw [hkd] at c0
      go_upto_region 30 with fail
      obtain ⟨F, hp, -, hnx⟩ := HS5.out.call HG.out
      have HC := hide (sets_any hp o (by simp [hkd]))
      have HNx := hide hnx
      clear hp hnx c0 HS5
      go_wp2_with (refine loadOp o ?q6w _ rfl ⟨N, 0, none⟩ ?q6x (ov_hcell HO5.out) ?_; rotate_left 2)
      try (case q6w => rfl)
      try (case q6x => rfl)
      refine HC.out.mono ?_
      rintro x w7 ⟨rfl, F', hp', hx'⟩
      have HS7 := hide (HCl.out w7 (HNx.out w7 F' (PrA T R) hp' hx'))
      clear hp' hx' HC HNx HO5 HM5 m0 m1
      go_wp2
      go_roundw
      case rel => first | exact ⟨j + 1, by omega, by go_num, HS7⟩ | ((repeat apply Exists.intro); refine ⟨?_, rfl⟩; exact ⟨j + 1, by omega, by go_num, HS7⟩)
      case measure => simp [intOf]; omega
    by_cases hkd : o.kd = 7
    · rw [hkd] at c0
      go_upto_region 30 with fail
      obtain ⟨F, hp, -, hnx⟩ := HS5.out.call HG.out
      have HC := hide (sets_any hp o (by simp [hkd]))
      have HNx := hide hnx
      clear hp hnx c0 HS5
      go_wp2_with (refine loadOp o ?q7w _ rfl ⟨N, 0, none⟩ ?q7x (ov_hcell HO5.out) ?_; rotate_left 2)
      try (case q7w => rfl)
      try (case q7x => rfl)
      refine HC.out.mono ?_
      rintro x w7 ⟨rfl, F', hp', hx'⟩
      have HS7 := hide (HCl.out w7 (HNx.out w7 F' (PrA T R) hp' hx'))
      clear hp' hx' HC HNx HO5 HM5 m0 m1
      go_wp2
      go_roundw
      case rel => first | exact ⟨j + 1, by omega, by go_num, HS7⟩ | ((repeat apply Exists.intro); refine ⟨?_, rfl⟩; exact ⟨j + 1, by omega, by go_num, HS7⟩)
      case measure => simp [intOf]; omega
    by_cases hkd : o.kd = 8
    · rw [hkd] at c0
      go_upto_region 30 with fail
      obtain ⟨F, hp, -, hnx⟩ := HS5.out.call HG.out
      have HC := hide (sets_any hp o (by simp [hkd]))
      have HNx := hide hnx
      clear hp hnx c0 HS5
      go_wp2_with (refine loadOp o ?q8w _ rfl ⟨N, 0, none⟩ ?q8x (ov_hcell HO5.out) ?_; rotate_left 2)
      try (case q8w => rfl)
      try (case q8x => rfl)
      refine HC.out.mono ?_
      rintro x w7 ⟨rfl, F', hp', hx'⟩
      have HS7 := hide (HCl.out w7 (HNx.out w7 F' (PrA T R) hp' hx'))
      clear hp' hx' HC HNx HO5 HM5 m0 m1
      go_wp2
      go_roundw
      case rel => first | exact ⟨j + 1, by omega, by go_num, HS7⟩ | ((repeat apply Exists.intro); refine ⟨?_, rfl⟩; exact ⟨j + 1, by omega, by go_num, HS7⟩)
      case measure => simp [intOf]; omega
    by_cases hkd : o.kd = 9
    · rw [hkd] at c0
      go_upto_region 30 with fail
      obtain ⟨F, hp, -, hnx⟩ := HS5.out.call HG.out
      have HC := hide (sets_any hp o (by simp [hkd]))
      have HNx := hide hnx
      clear hp hnx c0 HS5
      go_wp2_with (refine loadOp o ?q9w _ rfl ⟨N, 0, none⟩ ?q9x (ov_hcell HO5.out) ?_; rotate_left 2)
      try (case q9w => rfl)
      try (case q9x => rfl)
      refine HC.out.mono ?_
      rintro x w7 ⟨rfl, F', hp', hx'⟩
      have HS7 := hide (HCl.out w7 (HNx.out w7 F' (PrA T R) hp' hx'))
      clear hp' hx' HC HNx HO5 HM5 m0 m1
      go_wp2
      go_roundw
      case rel => first | exact ⟨j + 1, by omega, by go_num, HS7⟩ | ((repeat apply Exists.intro); refine ⟨?_, rfl⟩; exact ⟨j + 1, by omega, by go_num, HS7⟩)
      case measure => simp [intOf]; omega
    by_cases hkd : o.kd = 10
    · rw [hkd] at c0
      go_upto_region 30 with fail
      obtain ⟨F, hp, -, hnx⟩ := HS5.out.call HG.out
      have HC := hide (sets_any hp o (by simp [hkd]))
      have HNx := hide hnx
      clear hp hnx c0 HS5
      go_wp2_with (refine loadOp o ?q10w _ rfl ⟨N, 0, none⟩ ?q10x (ov_hcell HO5.out) ?_; rotate_left 2)
      try (case q10w => rfl)
      try (case q10x => rfl)
      refine HC.out.mono ?_
      rintro x w7 ⟨rfl, F', hp', hx'⟩
      have HS7 := hide (HCl.out w7 (HNx.out w7 F' (PrA T R) hp' hx'))
      clear hp' hx' HC HNx HO5 HM5 m0 m1
      go_wp2
      go_roundw
      case rel => first | exact ⟨j + 1, by omega, by go_num, HS7⟩ | ((repeat apply Exists.intro); refine ⟨?_, rfl⟩; exact ⟨j + 1, by omega, by go_num, HS7⟩)
      case measure => simp [intOf]; omega
    by_cases hkd : o.kd = 4
    · rw [hkd] at c0
      go_upto_region 38 with fail
      obtain ⟨F, hp, -, hnx⟩ := HS5.out.call HG.out
      have HC := hide (looks_any hp o (by simp [hkd]))
      have HNx := hide hnx
      clear hp hnx c0 HS5
      go_wp2_with (refine loadOp o ?q4w _ rfl ⟨N, 0, none⟩ ?q4x (ov_hcell HO5.out) ?_; rotate_left 2)
      try (case q4w => rfl)
      try (case q4x => rfl)
      refine HC.out.mono ?_
      rintro x w7 ⟨rfl, F', hp', hx'⟩
      have HS7 := hide (HCl.out w7 (HNx.out w7 F' (PrA T R) hp' hx'))
      clear hp' hx' HC HNx HO5 HM5 m0 m1
      go_wp2
      go_roundw
      case rel => first | exact ⟨j + 1, by omega, by go_num, HS7⟩ | ((repeat apply Exists.intro); refine ⟨?_, rfl⟩; exact ⟨j + 1, by omega, by go_num, HS7⟩)
      case measure => simp [intOf]; omega
    by_cases hkd : o.kd = 13
    · rw [hkd] at c0
      go_upto_region 38 with fail
      obtain ⟨F, hp, -, hnx⟩ := HS5.out.call HG.out
      have HC := hide (looks_any hp o (by simp [hkd]))
      have HNx := hide hnx
      clear hp hnx c0 HS5
      go_wp2_with (refine loadOp o ?q13w _ rfl ⟨N, 0, none⟩ ?q13x (ov_hcell HO5.out) ?_; rotate_left 2)
      try (case q13w => rfl)
      try (case q13x => rfl)
      refine HC.out.mono ?_
      rintro x w7 ⟨rfl, F', hp', hx'⟩
      have HS7 := hide (HCl.out w7 (HNx.out w7 F' (PrA T R) hp' hx'))
      clear hp' hx' HC HNx HO5 HM5 m0 m1
      go_wp2
      go_roundw
      case rel => first | exact ⟨j + 1, by omega, by go_num, HS7⟩ | ((repeat apply Exists.intro); refine ⟨?_, rfl⟩; exact ⟨j + 1, by omega, by go_num, HS7⟩)
      case measure => simp [intOf]; omega
    by_cases hkd : o.kd = 14
    · rw [hkd] at c0
      go_upto_region 38 with fail
      obtain ⟨F, hp, -, hnx⟩ := HS5.out.call HG.out
      have HC := hide (looks_any hp o (by simp [hkd]))
      have HNx := hide hnx
      clear hp hnx c0 HS5
      go_wp2_with (refine loadOp o ?q14w _ rfl ⟨N, 0, none⟩ ?q14x (ov_hcell HO5.out) ?_; rotate_left 2)
      try (case q14w => rfl)
      try (case q14x => rfl)
      refine HC.out.mono ?_
      rintro x w7 ⟨rfl, F', hp', hx'⟩
      have HS7 := hide (HCl.out w7 (HNx.out w7 F' (PrA T R) hp' hx'))
      clear hp' hx' HC HNx HO5 HM5 m0 m1
      go_wp2
      go_roundw
      case rel => first | exact ⟨j + 1, by omega, by go_num, HS7⟩ | ((repeat apply Exists.intro); refine ⟨?_, rfl⟩; exact ⟨j + 1, by omega, by go_num, HS7⟩)
      case measure => simp [intOf]; omega
    by_cases hkd : o.kd = 15
    · rw [hkd] at c0
      go_upto_region 38 with fail
      obtain ⟨F, hp, -, hnx⟩ := HS5.out.call HG.out
      have HC := hide (looks_any hp o (by simp [hkd]))
      have HNx := hide hnx
      clear hp hnx c0 HS5
      go_wp2_with (refine loadOp o ?q15w _ rfl ⟨N, 0, none⟩ ?q15x (ov_hcell HO5.out) ?_; rotate_left 2)
      try (case q15w => rfl)
      try (case q15x => rfl)
      refine HC.out.mono ?_
      rintro x w7 ⟨rfl, F', hp', hx'⟩
      have HS7 := hide (HCl.out w7 (HNx.out w7 F' (PrA T R) hp' hx'))
      clear hp' hx' HC HNx HO5 HM5 m0 m1
      go_wp2
      go_roundw
      case rel => first | exact ⟨j + 1, by omega, by go_num, HS7⟩ | ((repeat apply Exists.intro); refine ⟨?_, rfl⟩; exact ⟨j + 1, by omega, by go_num, HS7⟩)
      case measure => simp [intOf]; omega
    by_cases hkd : o.kd = 16
    · rw [hkd] at c0
      go_upto_region 38 with fail
      obtain ⟨F, hp, -, hnx⟩ := HS5.out.call HG.out
      have HC := hide (looks_any hp o (by simp [hkd]))
      have HNx := hide hnx
      clear hp hnx c0 HS5
      go_wp2_with (refine loadOp o ?q16w _ rfl ⟨N, 0, none⟩ ?q16x (ov_hcell HO5.out) ?_; rotate_left 2)
      try (case q16w => rfl)
      try (case q16x => rfl)
      refine HC.out.mono ?_
      rintro x w7 ⟨rfl, F', hp', hx'⟩
      have HS7 := hide (HCl.out w7 (HNx.out w7 F' (PrA T R) hp' hx'))
      clear hp' hx' HC HNx HO5 HM5 m0 m1
      go_wp2
      go_roundw
      case rel => first | exact ⟨j + 1, by omega, by go_num, HS7⟩ | ((repeat apply Exists.intro); refine ⟨?_, rfl⟩; exact ⟨j + 1, by omega, by go_num, HS7⟩)
      case measure => simp [intOf]; omega
    by_cases hkd : o.kd = 17
    · rw [hkd] at c0
      go_upto_region 38 with fail
      obtain ⟨F, hp, -, hnx⟩ := HS5.out.call HG.out
      have HC := hide (looks_any hp o (by simp [hkd]))
      have HNx := hide hnx
      clear hp hnx c0 HS5
      go_wp2_with (refine loadOp o ?q17w _ rfl ⟨N, 0, none⟩ ?q17x (ov_hcell HO5.out) ?_; rotate_left 2)
      try (case q17w => rfl)
      try (case q17x => rfl)
      refine HC.out.mono ?_
      rintro x w7 ⟨rfl, F', hp', hx'⟩
      have HS7 := hide (HCl.out w7 (HNx.out w7 F' (PrA T R) hp' hx'))
      clear hp' hx' HC HNx HO5 HM5 m0 m1
      go_wp2
      go_roundw
      case rel => first | exact ⟨j + 1, by omega, by go_num, HS7⟩ | ((repeat apply Exists.intro); refine ⟨?_, rfl⟩; exact ⟨j + 1, by omega, by go_num, HS7⟩)
      case measure => simp [intOf]; omega
    by_cases hkd : o.kd = 18
    · rw [hkd] at c0
      go_upto_region 38 with fail
      obtain ⟨F, hp, -, hnx⟩ := HS5.out.call HG.out
      have HC := hide (looks_any hp o (by simp [hkd]))
      have HNx := hide hnx
      clear hp hnx c0 HS5
      go_wp2_with (refine loadOp o ?q18w _ rfl ⟨N, 0, none⟩ ?q18x (ov_hcell HO5.out) ?_; rotate_left 2)
      try (case q18w => rfl)
      try (case q18x => rfl)
      refine HC.out.mono ?_
      rintro x w7 ⟨rfl, F', hp', hx'⟩
      have HS7 := hide (HCl.out w7 (HNx.out w7 F' (PrA T R) hp' hx'))
      clear hp' hx' HC HNx HO5 HM5 m0 m1
      go_wp2
      go_roundw
      case rel => first | exact ⟨j + 1, by omega, by go_num, HS7⟩ | ((repeat apply Exists.intro); refine ⟨?_, rfl⟩; exact ⟨j + 1, by omega, by go_num, HS7⟩)
      case measure => simp [intOf]; omega
    have HSe := hide (HCl.out w5 HS5.out)
    have n1 : (o.kd == 1) = false := by rw [beq_eq_false_iff_ne]; assumption
    have n2 : (o.kd == 2) = false := by rw [beq_eq_false_iff_ne]; assumption
    have n3 : (o.kd == 3) = false := by rw [beq_eq_false_iff_ne]; assumption
    have n4 : (o.kd == 4) = false := by rw [beq_eq_false_iff_ne]; assumption
    have n5 : (o.kd == 5) = false := by rw [beq_eq_false_iff_ne]; assumption
    have n6 : (o.kd == 6) = false := by rw [beq_eq_false_iff_ne]; assumption
    have n7 : (o.kd == 7) = false := by rw [beq_eq_false_iff_ne]; assumption
    have n8 : (o.kd == 8) = false := by rw [beq_eq_false_iff_ne]; assumption
    have n9 : (o.kd == 9) = false := by rw [beq_eq_false_iff_ne]; assumption
    have n10 : (o.kd == 10) = false := by rw [beq_eq_false_iff_ne]; assumption
    have n11 : (o.kd == 11) = false := by rw [beq_eq_false_iff_ne]; assumption
    have n12 : (o.kd == 12) = false := by rw [beq_eq_false_iff_ne]; assumption
    have n13 : (o.kd == 13) = false := by rw [beq_eq_false_iff_ne]; assumption
    have n14 : (o.kd == 14) = false := by rw [beq_eq_false_iff_ne]; assumption
    have n15 : (o.kd == 15) = false := by rw [beq_eq_false_iff_ne]; assumption
    have n16 : (o.kd == 16) = false := by rw [beq_eq_false_iff_ne]; assumption
    have n17 : (o.kd == 17) = false := by rw [beq_eq_false_iff_ne]; assumption
    have n18 : (o.kd == 18) = false := by rw [beq_eq_false_iff_ne]; assumption
    go_wp2
    go_roundw
    case rel => first | exact ⟨j + 1, by omega, by go_num, HSe⟩ | ((repeat apply Exists.intro); refine ⟨?_, rfl⟩; exact ⟨j + 1, by omega, by go_num, HSe⟩)
    case measure => simp [intOf]; omega
  · obtain rfl : j = len := by omega
    have hd : decide ((j : Int) < (j : Int)) = false := by simp
    obtain ⟨T0, R0, T1, R1, hS⟩ := HS.out.full
    have hc := hS.drop.back.bkAt
    have b0 : wr.cell? ⟨C, 0, none⟩ = some (tp T0) := by rw [cell_of_row _ _ _ _ _ _ hc]; rfl
    have b1 : wr.cell? ⟨C, 1, none⟩ = some (tp R0) := by rw [cell_of_row _ _ _ _ _ _ hc]; rfl
    obtain ⟨F, hp, -, hnx⟩ := hS.call ((good_pr T1 R1).star (good_bk _ _ _))
    have HC := hide (all_any hp)
    have HNx := hide hnx
    clear hp hnx hS hc HS
    go_wp2_with fail
    refine HC.out.mono ?_
    rintro x w7 ⟨rfl, F', hp', hx'⟩
    have hS7 := HNx.out w7 F' (PrA T0 R0) hp' hx'
    have hc := hS7.drop.back.bkAt
    have b2 : w7.cell? ⟨C, 2, none⟩ = some (tp T1) := by rw [cell_of_row _ _ _ _ _ _ hc]; rfl
    have b3 : w7.cell? ⟨C, 3, none⟩ = some (tp R1) := by rw [cell_of_row _ _ _ _ _ _ hc]; rfl
    obtain ⟨F2, hp2, -, hnx2⟩ := hS7.swap.call ((good_pr T0 R0).star (good_bk _ _ _))
    have HC2 := hide (all_any hp2)
    have HNx2 := hide hnx2
    clear hp2 hnx2 hS7 hc hp' hx' HC HNx b0 b1
    go_wp2_with fail
    refine HC2.out.mono ?_
    rintro x w8 ⟨rfl, F3, hp3, hx3⟩
    have HB := hide (HNx2.out w8 F3 (PrA T1 R1) hp3 hx3).bel
    clear hp3 hx3 HC2 HNx2 b2 b3
    go_wp2
    go_ret
    exact ⟨rfl, HB.out⟩
end Go.Proofs.YtbocpmcodlceoaaGreat
