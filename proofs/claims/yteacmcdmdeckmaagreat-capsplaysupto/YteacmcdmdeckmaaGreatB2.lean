import Derived.Test.YteacmcdmdeckmaaGreatB1
namespace Go.Proofs.YteacmcdmdeckmaaGreat
open Go.RowKit

set_option maxHeartbeats 400000 in
theorem nowhere_any (w : World) : Calls Tryz.prog 29 #[] w fun e w' => e = .returned (.agg #[.int .i64 (-1), .int .i64 (-1)]) ∧ Below w.heap.size w w' := by
  have hb := fun o => (Below.refl w.heap.size w).alloc (Nat.le_refl _) o
  go_enter Tryz.func29, Tryz.ntmps29
  go_wp2
  go_returns
  exact ⟨rfl, hb _⟩
set_option maxHeartbeats 400000 in
theorem parent_any (w : World) (r : Rc) : Calls Tryz.prog 30 #[r.val] w fun e w' => e = .returned (.agg #[.int .i64 r.e, .int .i64 r.t]) ∧ Below w.heap.size w w' := by
  have hb := fun o o' => ((Below.refl w.heap.size w).alloc (Nat.le_refl _) o).alloc (by simp) o'
  simp only [Rc.val]
  go_enter Tryz.func30, Tryz.ntmps30
  go_wp2
  go_returns
  exact ⟨rfl, hb _ _⟩
set_option maxHeartbeats 400000 in
theorem object_any (w : World) (r : Rc) : Calls Tryz.prog 42 #[r.val] w fun e w' => e = .returned (.agg #[.int .i64 r.k, .int .i64 r.o]) ∧ Below w.heap.size w w' := by
  have hb := fun o o' => ((Below.refl w.heap.size w).alloc (Nat.le_refl _) o).alloc (by simp) o'
  simp only [Rc.val]
  go_enter Tryz.func42, Tryz.ntmps42
  go_wp2
  go_returns
  exact ⟨rfl, hb _ _⟩
set_option maxHeartbeats 400000 in
theorem has_any (w : World) (r : Rc) (x : Int) : Calls Tryz.prog 47 #[r.val, .int .i64 x] w fun e w' => e = .returned (.bool (bits .andNot .i64 x r.r == 0)) ∧ Below w.heap.size w w' := by
  have hb := fun o => (Below.refl w.heap.size w).alloc (Nat.le_refl _) o
  simp only [Rc.val]
  go_enter Tryz.func47, Tryz.ntmps47
  go_wp2
  go_ret
  exact ⟨rfl, hb _⟩
set_option maxHeartbeats 400000 in
theorem isAim_any (w : World) (x : Int) : Calls Tryz.prog 75 #[.int .i64 x] w fun e w' => e = .returned (.bool (decide (-1 ≤ x ∧ x < 48))) ∧ w' = w := by
  by_cases h1 : -1 ≤ x
  · have e : decide (-1 ≤ x ∧ x < 48) = decide (x < 48) := by simp [h1]
    rw [e]
    go_enter Tryz.func75, Tryz.ntmps75
    go_wp2
    go_ret
    exact ⟨rfl, rfl⟩
  · have e : decide (-1 ≤ x ∧ x < 48) = false := by simp [h1]
    rw [e]
    go_enter Tryz.func75, Tryz.ntmps75
    go_wp2
    go_ret
    exact ⟨rfl, rfl⟩
set_option maxHeartbeats 400000 in
theorem areRights_any (w : World) (x : Int) : Calls Tryz.prog 45 #[.int .i64 x] w fun e w' => e = .returned (.bool (decide (0 ≤ x ∧ x ≤ 15))) ∧ w' = w := by
  by_cases h1 : 0 ≤ x
  · have e : decide (0 ≤ x ∧ x ≤ 15) = decide (x ≤ 15) := by simp [h1]
    rw [e]
    go_enter Tryz.func45, Tryz.ntmps45
    go_wp2
    go_ret
    exact ⟨rfl, rfl⟩
  · have e : decide (0 ≤ x ∧ x ≤ 15) = false := by simp [h1]
    rw [e]
    go_enter Tryz.func45, Tryz.ntmps45
    go_wp2
    go_ret
    exact ⟨rfl, rfl⟩
/-- what lies at a slot of a list -/
def atB (bk : List (Option Lst)) (e s : Int) : Option Rc := (look bk e).bind (fun l => look l s)
/-- the code of a looking up -/
def lcode (bk : List (Option Lst)) (e s : Int) : Int := if (look bk e).isNone then 83 else if (atB bk e s).isNone then 80 else 0
theorem lcode_closed {bk : List (Option Lst)} {e s : Int} (h : look bk e = none) : lcode bk e s = 83 ∧ atB bk e s = none := by simp [lcode, atB, h]
theorem lcode_free {bk : List (Option Lst)} {e s : Int} {l : Lst} (h : look bk e = some l) (h2 : look l s = none) : lcode bk e s = 80 ∧ atB bk e s = none := by simp [lcode, atB, h, h2]
theorem lcode_held {bk : List (Option Lst)} {e s : Int} {l : Lst} {r : Rc} (h : look bk e = some l) (h2 : look l s = some r) : lcode bk e s = 0 ∧ atB bk e s = some r := by simp [lcode, atB, h, h2]
theorem below_six {B : Nat} {a w : World} (h : Below B a w) {b : Nat} (hb : B ≤ b) (y0 y1 y2 y3 y4 y5 : Value) :
    Below B a ((((((w.setCell ⟨b, 0, none⟩ y0).setCell ⟨b, 1, none⟩ y1).setCell ⟨b, 2, none⟩ y2).setCell ⟨b, 3, none⟩ y3).setCell ⟨b, 4, none⟩ y4).setCell ⟨b, 5, none⟩ y5) :=
  (((((h.setCell (p := ⟨b, 0, none⟩) hb _).setCell (p := ⟨b, 1, none⟩) hb _).setCell (p := ⟨b, 2, none⟩) hb _).setCell (p := ⟨b, 3, none⟩) hb _).setCell (p := ⟨b, 4, none⟩) hb _).setCell (p := ⟨b, 5, none⟩) hb _
set_option maxHeartbeats 1600000 in
theorem look_any (w : World) (F : Nat → Prop) (B : Nat) (bk : List (Option Lst)) (h : Book w F B bk) (e s : Int) :
    Calls Tryz.prog 27 #[.pointer (some ⟨B, 0, none⟩), .int .i64 e, .int .i64 s] w fun x w' => x = .returned (.tuple #[((atB bk e s).getD Rc.zero).val, .int .i64 (lcode bk e s)]) ∧ Below w.heap.size w w' := by
  have HA := hide (fun o => h.below ((Below.refl w.heap.size w).alloc (Nat.le_refl _) o))
  have hbel1 : ∀ a, Below w.heap.size w (w.alloc a) := fun a => (Below.refl _ _).alloc (Nat.le_refl _) _
  obtain ⟨T, G, m, fs, h⟩ := h
  have hA := fun o => h.keep (w' := w.alloc o) (by simp) (fun b hb => Below.heap_alloc _ _ _ (h.lt b hb))
  have c0 := fun o => (hA o).cell
  have HG := hide (fun o => getL_any _ G T m (hA o).tab e)
  rcases h.cases e with ⟨h1, h2⟩ | ⟨k, b, l, rfl, h1, h2, h3, h4, h5, h6⟩
  · obtain ⟨e1, e2⟩ := lcode_closed (s := s) h2
    rw [e1, e2]
    rw [h1] at HG
    simp only [ptr, Option.isSome_none] at HG
    clear h hA h1 h2 e1 e2 HA
    simp only [Rc.val, Rc.zero, Option.getD_none]
    go_enter Tryz.func27, Tryz.ntmps27
    go_wp2_with fail
    refine (HG.out _).mono ?_
    rintro e w1 ⟨rfl, rfl⟩
    go_wp2
    go_returns
    exact ⟨rfl, hbel1 _⟩
  · rw [h3] at HG
    simp only [ptr, Option.isSome_some] at HG
    have HR := hide (fun o => getR_any _ (fs k) b l (h6.below ((Below.refl w.heap.size w).alloc (Nat.le_refl _) o)) s)
    cases hl : look l s with
    | none =>
      obtain ⟨e1, e2⟩ := lcode_free h4 hl
      rw [e1, e2]
      rw [hl] at HR
      clear h hA h1 h2 e1 e2 HA h3 h4 h5 h6 hl
      simp only [Rc.val, Rc.zero, Option.getD_none, Option.isSome_none] at *
      go_enter Tryz.func27, Tryz.ntmps27
      go_wp2_with fail
      refine (HG.out _).mono ?_
      rintro e w1 ⟨rfl, rfl⟩
      go_wp2_with fail
      refine (HR.out _).mono ?_
      rintro e w2 ⟨rfl, hb2⟩
      have hR := (hb2.block w.heap.size (by simp)).trans (heap_alloc_new w _)
      have HB2 := hide ((hbel1 _).trans (hb2.mono (by simp)))
      have hlt : w.heap.size < w2.heap.size := (Array.getElem?_eq_some_iff.1 hR).1
      clear hb2 HR HG
      go_upto_region 6 with fail
      have hX : (w2.alloc (Obj.cells #[.int .i64 0, .int .i64 0, .int .i64 0, .int .i64 0, .int .i64 0, .int .i64 0] 65)).heap[w2.heap.size]? = some (Obj.cells #[.int .i64 0, .int .i64 0, .int .i64 0, .int .i64 0, .int .i64 0, .int .i64 0] 65 (0, 0)) := heap_alloc_new _ _
      have hY := (Below.heap_alloc w2 (Obj.cells #[.int .i64 0, .int .i64 0, .int .i64 0, .int .i64 0, .int .i64 0, .int .i64 0] 65) w.heap.size hlt).trans hR
      have HB3 := hide (HB2.out.alloc (Nat.le_of_lt hlt) (Obj.cells #[.int .i64 0, .int .i64 0, .int .i64 0, .int .i64 0, .int .i64 0, .int .i64 0] 65))
      generalize w2.alloc (Obj.cells #[.int .i64 0, .int .i64 0, .int .i64 0, .int .i64 0, .int .i64 0, .int .i64 0] 65) = W at *
      clear hR HB2
      obtain ⟨d0, d1, d2, d3, d4, d5, f0, f1, f2, f3, f4, f5⟩ := blk6 hY
      obtain ⟨x0, x1, x2, x3, x4, x5, _, _, _, _, _, _⟩ := blk6 hX
      have HS := hide (fun a b c d e f => set6 hY a b c d e f)
      clear hX hY
      go_wp2
      refine bodyPost_ret (results_row2 rfl _ _ w.heap.size 65 #[.int .i64 0, .int .i64 0, .int .i64 0, .int .i64 0, .int .i64 0, .int .i64 0] (0, 0) _ rfl (HS.out _ _ _ _ _ _) Tryz.underlying65 rfl (by kernel_rfl)) rfl ?_
      exact ⟨rfl, below_six HB3.out (Nat.le_refl _) _ _ _ _ _ _⟩
    | some r =>
      obtain ⟨e1, e2⟩ := lcode_held h4 hl
      rw [e1, e2]
      rw [hl] at HR
      clear h hA h1 h2 e1 e2 HA h3 h4 h5 h6 hl
      simp only [Rc.val, Rc.zero, Option.getD_some, Option.isSome_some] at *
      go_enter Tryz.func27, Tryz.ntmps27
      go_wp2_with fail
      refine (HG.out _).mono ?_
      rintro e w1 ⟨rfl, rfl⟩
      go_wp2_with fail
      refine (HR.out _).mono ?_
      rintro e w2 ⟨rfl, hb2⟩
      have hR := (hb2.block w.heap.size (by simp)).trans (heap_alloc_new w _)
      have HB2 := hide ((hbel1 _).trans (hb2.mono (by simp)))
      have hlt : w.heap.size < w2.heap.size := (Array.getElem?_eq_some_iff.1 hR).1
      clear hb2 HR HG
      go_upto_region 7 with fail
      have hX : (w2.alloc (Obj.cells #[.int .i64 r.k, .int .i64 r.o, .int .i64 r.s, .int .i64 r.r, .int .i64 r.e, .int .i64 r.t] 65)).heap[w2.heap.size]? = some (Obj.cells #[.int .i64 r.k, .int .i64 r.o, .int .i64 r.s, .int .i64 r.r, .int .i64 r.e, .int .i64 r.t] 65 (0, 0)) := heap_alloc_new _ _
      have hY := (Below.heap_alloc w2 (Obj.cells #[.int .i64 r.k, .int .i64 r.o, .int .i64 r.s, .int .i64 r.r, .int .i64 r.e, .int .i64 r.t] 65) w.heap.size hlt).trans hR
      have HB3 := hide (HB2.out.alloc (Nat.le_of_lt hlt) (Obj.cells #[.int .i64 r.k, .int .i64 r.o, .int .i64 r.s, .int .i64 r.r, .int .i64 r.e, .int .i64 r.t] 65))
      generalize w2.alloc (Obj.cells #[.int .i64 r.k, .int .i64 r.o, .int .i64 r.s, .int .i64 r.r, .int .i64 r.e, .int .i64 r.t] 65) = W at *
      clear hR HB2
      obtain ⟨d0, d1, d2, d3, d4, d5, f0, f1, f2, f3, f4, f5⟩ := blk6 hY
      obtain ⟨x0, x1, x2, x3, x4, x5, _, _, _, _, _, _⟩ := blk6 hX
      have HS := hide (fun a b c d e f => set6 hY a b c d e f)
      clear hX hY
      go_wp2
      refine bodyPost_ret (results_row2 rfl _ _ w.heap.size 65 #[.int .i64 r.k, .int .i64 r.o, .int .i64 r.s, .int .i64 r.r, .int .i64 r.e, .int .i64 r.t] (0, 0) _ rfl (HS.out _ _ _ _ _ _) Tryz.underlying65 rfl (by kernel_rfl)) rfl ?_
      exact ⟨rfl, below_six HB3.out (Nat.le_refl _) _ _ _ _ _ _⟩
end Go.Proofs.YteacmcdmdeckmaaGreat
