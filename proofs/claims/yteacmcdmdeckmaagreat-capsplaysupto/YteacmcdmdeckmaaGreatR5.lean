import Derived.Test.YteacmcdmdeckmaaGreatR4
namespace Go.Proofs.YteacmcdmdeckmaaGreat
open Go.RowKit

theorem set2a {w : World} {b : Nat} {x0 x1 : Value} {t : TypeId} (h : w.heap[b]? = some (.cells #[x0, x1] t (0, 0))) (y0 y1 : Value) :
    ((w.setCell ⟨b, 0, none⟩ y0).setCell ⟨b, 1, none⟩ y1).heap[b]? = some (.cells #[y0, y1] t (0, 0)) := by
  have h1 := heap_setCell_same _ b 0 _ _ y0 h
  have h2 := heap_setCell_same _ b 1 _ _ y1 h1
  rw [h2]; rfl
/-- what From tells -/
def fromB (bk : List (Option Lst)) (e s : Int) : Int × Int := match atB bk e s with
  | some r => (r.e, r.t)
  | none => (-1, -1)
set_option maxHeartbeats 3200000 in
theorem from_any (w : World) (F : Nat → Prop) (B : Nat) (bk : List (Option Lst)) (h : Book w F B bk) (e s : Int) :
    Calls Tryz.prog 11 #[.pointer (some ⟨B, 0, none⟩), .int .i64 e, .int .i64 s] w fun x w' => x = .returned (.tuple #[.agg #[.int .i64 (fromB bk e s).1, .int .i64 (fromB bk e s).2], .int .i64 (lcode bk e s)]) ∧ Below w.heap.size w w' := by
  have hb0 := (Below.refl w.heap.size w).alloc (Nat.le_refl _) (.cells #[.int .i64 0, .int .i64 0] 48)
  have HL := hide (look_any _ F B bk (h.below hb0) e s)
  have hZ := heap_alloc_new w (.cells #[.int .i64 0, .int .i64 0] 48)
  have HB0 := hide hb0
  clear h hb0
  cases hn : atB bk e s with
  | none =>
    have hc : (lcode bk e s != 0) = true := by rcases lcode_none hn with h | h <;> rw [h] <;> decide
    rw [show fromB bk e s = (-1, -1) by unfold fromB; rw [hn]]
    rw [hn] at HL
    generalize lcode bk e s = c at *
    simp only [Rc.val, Rc.zero, Option.getD_none] at *
    clear hn
    go_enter Tryz.func11, Tryz.ntmps11
    go_wp2_with fail
    generalize hgw : w.alloc (.cells #[.int .i64 0, .int .i64 0] 48) = w0 at *
    clear hgw
    refine HL.out.mono ?_
    rintro e1 w1 ⟨rfl, hb1⟩
    have hlt := (Array.getElem?_eq_some_iff.1 hZ).1
    have hZ1 := (hb1.block w.heap.size hlt).trans hZ
    have hb1' := HB0.out.trans (hb1.mono HB0.out.size)
    clear hb1 HL hZ
    go_upto_region 3 with fail
    have hZ2 := (Below.heap_alloc w1 (.cells #[.int .i64 0, .int .i64 0, .int .i64 0, .int .i64 0, .int .i64 0, .int .i64 0] 65) w.heap.size (Array.getElem?_eq_some_iff.1 hZ1).1).trans hZ1
    have HB2 := hide (hb1'.alloc hb1'.size (.cells #[.int .i64 0, .int .i64 0, .int .i64 0, .int .i64 0, .int .i64 0, .int .i64 0] 65))
    generalize w1.alloc (.cells #[.int .i64 0, .int .i64 0, .int .i64 0, .int .i64 0, .int .i64 0, .int .i64 0] 65) = w2 at *
    clear hZ1 hb1'
    go_wp2_with fail
    refine (nowhere_any w2).mono ?_
    rintro e1 w3 ⟨rfl, hb3⟩
    have hZ3 := (hb3.block w.heap.size (Array.getElem?_eq_some_iff.1 hZ2).1).trans hZ2
    have HB3 := hide (HB2.out.trans (hb3.mono HB2.out.size))
    obtain ⟨d0, d1, f0, f1⟩ := blk2 hZ3
    have HS := hide (fun a b => set2a hZ3 a b)
    clear hZ2 hZ3 hb3 HB2
    go_wp2
    refine bodyPost_ret (results_row2 rfl _ _ w.heap.size 48 #[.int .i64 (-1), .int .i64 (-1)] (0, 0) _ rfl (HS.out _ _) Tryz.underlying48 rfl (by kernel_rfl)) rfl ?_
    exact ⟨rfl, (HB3.out.setCell (p := ⟨w.heap.size, 0, none⟩) (Nat.le_refl _) _).setCell (p := ⟨w.heap.size, 1, none⟩) (Nat.le_refl _) _⟩
  | some r =>
    rw [show fromB bk e s = (r.e, r.t) by unfold fromB; rw [hn], lcode_some hn]
    rw [hn, lcode_some hn] at HL
    simp only [Rc.val, Option.getD_some] at *
    clear hn
    go_enter Tryz.func11, Tryz.ntmps11
    go_wp2_with fail
    generalize hgw : w.alloc (.cells #[.int .i64 0, .int .i64 0] 48) = w0 at *
    clear hgw
    refine HL.out.mono ?_
    rintro e1 w1 ⟨rfl, hb1⟩
    have hlt := (Array.getElem?_eq_some_iff.1 hZ).1
    have hZ1 := (hb1.block w.heap.size hlt).trans hZ
    have hb1' := HB0.out.trans (hb1.mono HB0.out.size)
    clear hb1 HL hZ
    go_upto_region 4 with fail
    have hZ2 := (Below.heap_alloc w1 (.cells #[.int .i64 r.k, .int .i64 r.o, .int .i64 r.s, .int .i64 r.r, .int .i64 r.e, .int .i64 r.t] 65) w.heap.size (Array.getElem?_eq_some_iff.1 hZ1).1).trans hZ1
    have hX2 := heap_alloc_new w1 (.cells #[.int .i64 r.k, .int .i64 r.o, .int .i64 r.s, .int .i64 r.r, .int .i64 r.e, .int .i64 r.t] 65)
    have HB2 := hide (hb1'.alloc hb1'.size (.cells #[.int .i64 r.k, .int .i64 r.o, .int .i64 r.s, .int .i64 r.r, .int .i64 r.e, .int .i64 r.t] 65))
    generalize hgw : w1.alloc (.cells #[.int .i64 r.k, .int .i64 r.o, .int .i64 r.s, .int .i64 r.r, .int .i64 r.e, .int .i64 r.t] 65) = w2 at *
    clear hgw hZ1 hb1'
    obtain ⟨x0, x1, x2, x3, x4, x5, -, -, -, -, -, -⟩ := blk6 hX2
    have HP := hide (parent_any w2 r)
    simp only [Rc.val] at HP
    go_wp2_with fail
    refine HP.out.mono ?_
    rintro e1 w3 ⟨rfl, hb3⟩
    have hZ3 := (hb3.block w.heap.size (Array.getElem?_eq_some_iff.1 hZ2).1).trans hZ2
    have HB3 := hide (HB2.out.trans (hb3.mono HB2.out.size))
    obtain ⟨d0, d1, f0, f1⟩ := blk2 hZ3
    have HS := hide (fun a b => set2a hZ3 a b)
    clear hZ2 hZ3 hb3 HB2 hX2 x0 x1 x2 x3 x4 x5 HP
    go_wp2
    refine bodyPost_ret (results_row2 rfl _ _ w.heap.size 48 #[.int .i64 r.e, .int .i64 r.t] (0, 0) _ rfl (HS.out _ _) Tryz.underlying48 rfl (by kernel_rfl)) rfl ?_
    exact ⟨rfl, (HB3.out.setCell (p := ⟨w.heap.size, 0, none⟩) (Nat.le_refl _) _).setCell (p := ⟨w.heap.size, 1, none⟩) (Nat.le_refl _) _⟩
set_option maxHeartbeats 3200000 in
theorem get_any (w : World) (F : Nat → Prop) (B : Nat) (bk : List (Option Lst)) (h : Book w F B bk) (e s : Int) :
    Calls Tryz.prog 9 #[.pointer (some ⟨B, 0, none⟩), .int .i64 e, .int .i64 s] w fun x w' => x = .returned (.tuple #[((atB bk e s).getD Rc.zero).cap, .int .i64 (lcode bk e s)]) ∧ Below w.heap.size w w' := by
  have hb0 := (Below.refl w.heap.size w).alloc (Nat.le_refl _) (.cells #[.int .i64 0, .int .i64 0, .int .i64 0, .int .i64 0] 28)
  have HL := hide (look_any _ F B bk (h.below hb0) e s)
  have hZ := heap_alloc_new w (.cells #[.int .i64 0, .int .i64 0, .int .i64 0, .int .i64 0] 28)
  have HB0 := hide hb0
  clear h hb0
  generalize (atB bk e s).getD Rc.zero = r at *
  generalize lcode bk e s = c at *
  simp only [Rc.val, Rc.cap] at *
  go_enter Tryz.func9, Tryz.ntmps9
  go_wp2_with fail
  generalize hgw : w.alloc (.cells #[.int .i64 0, .int .i64 0, .int .i64 0, .int .i64 0] 28) = w0 at *
  clear hgw
  refine HL.out.mono ?_
  rintro e1 w1 ⟨rfl, hb1⟩
  have hlt := (Array.getElem?_eq_some_iff.1 hZ).1
  have hZ1 := (hb1.block w.heap.size hlt).trans hZ
  have hb1' := HB0.out.trans (hb1.mono HB0.out.size)
  clear hb1 HL hZ
  go_upto_region 2 with fail
  have hZ2 := (Below.heap_alloc w1 (.cells #[.int .i64 r.k, .int .i64 r.o, .int .i64 r.s, .int .i64 r.r, .int .i64 r.e, .int .i64 r.t] 65) w.heap.size (Array.getElem?_eq_some_iff.1 hZ1).1).trans hZ1
  have hX2 := heap_alloc_new w1 (.cells #[.int .i64 r.k, .int .i64 r.o, .int .i64 r.s, .int .i64 r.r, .int .i64 r.e, .int .i64 r.t] 65)
  have HB2 := hide (hb1'.alloc hb1'.size (.cells #[.int .i64 r.k, .int .i64 r.o, .int .i64 r.s, .int .i64 r.r, .int .i64 r.e, .int .i64 r.t] 65))
  generalize hgw : w1.alloc (.cells #[.int .i64 r.k, .int .i64 r.o, .int .i64 r.s, .int .i64 r.r, .int .i64 r.e, .int .i64 r.t] 65) = w2 at *
  clear hgw hZ1 hb1'
  obtain ⟨x0, x1, x2, x3, x4, x5, -, -, -, -, -, -⟩ := blk6 hX2
  obtain ⟨d0, d1, d2, d3⟩ := blk4 hZ2
  obtain ⟨f0, f1, f2, f3⟩ := blk4f hZ2
  have HS := hide (fun a b c d => set4 hZ2 a b c d)
  clear hZ2 hX2
  go_wp2
  refine bodyPost_ret (results_row2 rfl _ _ w.heap.size 28 #[.int .i64 r.k, .int .i64 r.o, .int .i64 r.s, .int .i64 r.r] (0, 0) _ rfl (HS.out _ _ _ _) Tryz.underlying28 rfl (by kernel_rfl)) rfl ?_
  exact ⟨rfl, (((HB2.out.setCell (p := ⟨w.heap.size, 0, none⟩) (Nat.le_refl _) _).setCell (p := ⟨w.heap.size, 1, none⟩) (Nat.le_refl _) _).setCell (p := ⟨w.heap.size, 2, none⟩) (Nat.le_refl _) _).setCell (p := ⟨w.heap.size, 3, none⟩) (Nat.le_refl _) _⟩
end Go.Proofs.YteacmcdmdeckmaaGreat
