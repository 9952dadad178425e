import Derived.Test.YteacmcdmdeckmaaGreatR5
import Derived.Test.YteacmcdmdeckmaaGreatX4
namespace Go.Proofs.YteacmcdmdeckmaaGreat
open Go.RowKit

set_option maxHeartbeats 400000 in
theorem thing_any (w : World) (r : Rc) : Calls Tryz.prog 46 #[r.val] w fun e w' => e = .returned (.agg #[.int .i64 r.k, .int .i64 r.s]) ∧ Below w.heap.size w w' := by
  have hb := fun o o' => ((Below.refl w.heap.size w).alloc (Nat.le_refl _) o).alloc (by simp) o'
  simp only [Rc.val]
  go_enter Tryz.func46, Tryz.ntmps46
  go_wp2
  go_returns
  exact ⟨rfl, hb _ _⟩
set_option maxHeartbeats 400000 in
theorem kind_any (w : World) (r : Rc) : Calls Tryz.prog 39 #[r.val] w fun e w' => e = .returned (.int .i64 r.k) ∧ Below w.heap.size w w' := by
  have hb := fun o => (Below.refl w.heap.size w).alloc (Nat.le_refl _) o
  simp only [Rc.val]
  go_enter Tryz.func39, Tryz.ntmps39
  go_wp2
  go_ret
  exact ⟨rfl, hb _⟩
set_option maxHeartbeats 1600000 in
theorem fits_thing (bf bv : Nat) (x y : Int) : Fits 69 bf bv (.cells #[.func (.func 46) #[] #[]] 92 (0, 0)) (.cells #[.int .i64 x, .int .i64 y] 91 (0, 0)) (fun r => decide (r.k = x) && decide (r.s = y)) where
  run := by
    intro W r hf hv
    have hB := fun o => (Below.refl W.heap.size W).alloc (Nat.le_refl _) o
    have HP := hide (fun W => thing_any W r)
    simp only [Rc.val] at HP ⊢
    have hR := heap_alloc_new W (.cells #[.int .i64 r.k, .int .i64 r.o, .int .i64 r.s, .int .i64 r.r, .int .i64 r.e, .int .i64 r.t] 65)
    have hf1 := (Below.heap_alloc W (.cells #[.int .i64 r.k, .int .i64 r.o, .int .i64 r.s, .int .i64 r.r, .int .i64 r.e, .int .i64 r.t] 65) bf (Array.getElem?_eq_some_iff.1 hf).1).trans hf
    have hv1 := (Below.heap_alloc W (.cells #[.int .i64 r.k, .int .i64 r.o, .int .i64 r.s, .int .i64 r.r, .int .i64 r.e, .int .i64 r.t] 65) bv (Array.getElem?_eq_some_iff.1 hv).1).trans hv
    have HB := hide (hB (.cells #[.int .i64 r.k, .int .i64 r.o, .int .i64 r.s, .int .i64 r.r, .int .i64 r.e, .int .i64 r.t] 65))
    have HS : W.heap.size ≤ (W.alloc (.cells #[.int .i64 r.k, .int .i64 r.o, .int .i64 r.s, .int .i64 r.r, .int .i64 r.e, .int .i64 r.t] 65)).heap.size := by simp
    clear hf hv hB
    go_enter Tryz.func69, Tryz.ntmps69
    go_wp2_with fail
    generalize W.alloc (.cells #[.int .i64 r.k, .int .i64 r.o, .int .i64 r.s, .int .i64 r.r, .int .i64 r.e, .int .i64 r.t] 65) = W1 at *
    refine region_below (by kernel_rfl) (by kernel_rfl) ?_
    refine wpQuiet_step (fun K hK => ?_)
    go_simp
    refine ⟨.func (.func 46) #[] #[], fun w' hw' => ?_, hK _ ?_⟩
    · have c0 := blk1 ((hw'.block bf (Array.getElem?_eq_some_iff.1 hf1).1).trans hf1)
      go_simp
    clear hK K
    refine wpQuiet_step (fun K hK => ?_)
    go_simp
    refine ⟨.agg #[.int .i64 r.k, .int .i64 r.o, .int .i64 r.s, .int .i64 r.r, .int .i64 r.e, .int .i64 r.t], fun w' hw' => ?_, hK _ ?_⟩
    · obtain ⟨d0, d1, d2, d3, d4, d5, _, _, _, _, _, _⟩ := blk6 ((hw'.block W.heap.size (Array.getElem?_eq_some_iff.1 hR).1).trans hR)
      go_simp
    clear hK K
    refine wpQuiet_step (fun K hK => ?_)
    go_simp
    refine ⟨.agg #[.int .i64 r.k, .int .i64 r.s], fun w' hw' => calls_below hw' (HP.out w'), hK _ ?_⟩
    clear hK K
    refine wpQuiet_step (fun K hK => ?_)
    go_simp
    refine ⟨.agg #[.int .i64 x, .int .i64 y], fun w' hw' => ?_, hK _ ?_⟩
    · obtain ⟨d0, d1, _, _⟩ := blk2 ((hw'.block bv (Array.getElem?_eq_some_iff.1 hv1).1).trans hv1)
      go_simp
    clear hK K
    refine wpQuiet_step (fun K hK => ?_)
    go_simp
    refine ⟨.bool (decide (r.k = x) && decide (r.s = y)), fun w' hw' => ?_, hK _ ?_⟩
    · by_cases h1 : r.k = x <;> by_cases h2 : r.s = y <;> simp [h1, h2]
    clear hK K
    refine wpQuiet_step (fun K hK => ?_)
    go_simp
    refine ⟨_, fun _ _ => rfl, hK _ ?_⟩
    clear hK K
    refine wpQuiet_nil ?_
    intro w' hw'
    go_wp2
    go_ret
    exact ⟨rfl, HB.out.trans (hw'.mono HS)⟩
  ent := enters_of Tryz.func69 (by kernel_rfl) rfl
set_option maxHeartbeats 1600000 in
theorem fits_kind (bf bv : Nat) (x : Int) : Fits 67 bf bv (.cells #[.func (.func 39) #[] #[]] 85 (0, 0)) (.cells #[.int .i64 x] 3 (0, 0)) (fun r => decide (r.k = x)) where
  run := by
    intro W r hf hv
    have hB := fun o => (Below.refl W.heap.size W).alloc (Nat.le_refl _) o
    have HP := hide (fun W => kind_any W r)
    simp only [Rc.val] at HP ⊢
    have hR := heap_alloc_new W (.cells #[.int .i64 r.k, .int .i64 r.o, .int .i64 r.s, .int .i64 r.r, .int .i64 r.e, .int .i64 r.t] 65)
    have hf1 := (Below.heap_alloc W (.cells #[.int .i64 r.k, .int .i64 r.o, .int .i64 r.s, .int .i64 r.r, .int .i64 r.e, .int .i64 r.t] 65) bf (Array.getElem?_eq_some_iff.1 hf).1).trans hf
    have hv1 := (Below.heap_alloc W (.cells #[.int .i64 r.k, .int .i64 r.o, .int .i64 r.s, .int .i64 r.r, .int .i64 r.e, .int .i64 r.t] 65) bv (Array.getElem?_eq_some_iff.1 hv).1).trans hv
    have HB := hide (hB (.cells #[.int .i64 r.k, .int .i64 r.o, .int .i64 r.s, .int .i64 r.r, .int .i64 r.e, .int .i64 r.t] 65))
    have HS : W.heap.size ≤ (W.alloc (.cells #[.int .i64 r.k, .int .i64 r.o, .int .i64 r.s, .int .i64 r.r, .int .i64 r.e, .int .i64 r.t] 65)).heap.size := by simp
    clear hf hv hB
    go_enter Tryz.func67, Tryz.ntmps67
    go_wp2_with fail
    generalize W.alloc (.cells #[.int .i64 r.k, .int .i64 r.o, .int .i64 r.s, .int .i64 r.r, .int .i64 r.e, .int .i64 r.t] 65) = W1 at *
    refine region_below (by kernel_rfl) (by kernel_rfl) ?_
    refine wpQuiet_step (fun K hK => ?_)
    go_simp
    refine ⟨.func (.func 39) #[] #[], fun w' hw' => ?_, hK _ ?_⟩
    · have c0 := blk1 ((hw'.block bf (Array.getElem?_eq_some_iff.1 hf1).1).trans hf1)
      go_simp
    clear hK K
    refine wpQuiet_step (fun K hK => ?_)
    go_simp
    refine ⟨.agg #[.int .i64 r.k, .int .i64 r.o, .int .i64 r.s, .int .i64 r.r, .int .i64 r.e, .int .i64 r.t], fun w' hw' => ?_, hK _ ?_⟩
    · obtain ⟨d0, d1, d2, d3, d4, d5, _, _, _, _, _, _⟩ := blk6 ((hw'.block W.heap.size (Array.getElem?_eq_some_iff.1 hR).1).trans hR)
      go_simp
    clear hK K
    refine wpQuiet_step (fun K hK => ?_)
    go_simp
    refine ⟨.int .i64 r.k, fun w' hw' => calls_below hw' (HP.out w'), hK _ ?_⟩
    clear hK K
    refine wpQuiet_step (fun K hK => ?_)
    go_simp
    refine ⟨.int .i64 x, fun w' hw' => ?_, hK _ ?_⟩
    · have d0 := blk1 ((hw'.block bv (Array.getElem?_eq_some_iff.1 hv1).1).trans hv1)
      go_simp
    clear hK K
    refine wpQuiet_step (fun K hK => ?_)
    go_simp
    refine ⟨.bool (decide (r.k = x)), fun w' hw' => ?_, hK _ ?_⟩
    · by_cases h1 : r.k = x <;> simp [h1]
    clear hK K
    refine wpQuiet_step (fun K hK => ?_)
    go_simp
    refine ⟨_, fun _ _ => rfl, hK _ ?_⟩
    clear hK K
    refine wpQuiet_nil ?_
    intro w' hw'
    go_wp2
    go_ret
    exact ⟨rfl, HB.out.trans (hw'.mono HS)⟩
  ent := enters_of Tryz.func67 (by kernel_rfl) rfl
set_option maxHeartbeats 400000 in
theorem same_thing (W : World) (x y : Int) : Calls Tryz.prog 41 #[.func (.func 46) #[] #[], .agg #[.int .i64 x, .int .i64 y]] W fun e w' => e = .returned (fv 69 W.heap.size (W.heap.size + 1)) ∧
    w'.heap[W.heap.size]? = some (.cells #[.func (.func 46) #[] #[]] 92 (0, 0)) ∧ w'.heap[W.heap.size + 1]? = some (.cells #[.int .i64 x, .int .i64 y] 91 (0, 0)) ∧ Below W.heap.size W w' := by
  have hb := fun o o' => ((Below.refl W.heap.size W).alloc (Nat.le_refl _) o).alloc (by simp) o'
  have h1 := fun o o' => heap_alloc2_old W o o'
  have h2 := fun o o' => heap_alloc2_new W o o'
  go_enter Tryz.func41, Tryz.ntmps41
  go_wp2
  go_ret
  exact ⟨rfl, h1 _ _, h2 _ _, hb _ _⟩
set_option maxHeartbeats 400000 in
theorem same_kind (W : World) (x : Int) : Calls Tryz.prog 38 #[.func (.func 39) #[] #[], .int .i64 x] W fun e w' => e = .returned (fv 67 W.heap.size (W.heap.size + 1)) ∧
    w'.heap[W.heap.size]? = some (.cells #[.func (.func 39) #[] #[]] 85 (0, 0)) ∧ w'.heap[W.heap.size + 1]? = some (.cells #[.int .i64 x] 3 (0, 0)) ∧ Below W.heap.size W w' := by
  have hb := fun o o' => ((Below.refl W.heap.size W).alloc (Nat.le_refl _) o).alloc (by simp) o'
  have h1 := fun o o' => heap_alloc2_old W o o'
  have h2 := fun o o' => heap_alloc2_new W o o'
  go_enter Tryz.func38, Tryz.ntmps38
  go_wp2
  go_ret
  exact ⟨rfl, h1 _ _, h2 _ _, hb _ _⟩
/-- how many of a kind lie in a list -/
def cnt (bk : List (Option Lst)) (e k : Int) : Nat := match look bk e with | none => 0 | some l => (fit (fun r => decide (r.k = k)) (prs l 0)).length
set_option maxHeartbeats 1600000 in
theorem count_any (w : World) (F : Nat → Prop) (B : Nat) (bk : List (Option Lst)) (h : Book w F B bk) (e k : Int) :
    Calls Tryz.prog 18 #[.pointer (some ⟨B, 0, none⟩), .int .i64 e, .int .i64 k] w fun x w' => x = .returned (.int .i64 ((cnt bk e k : Nat) : Int)) ∧ Below w.heap.size w w' := by
  obtain ⟨T, G, m, fs, hA⟩ := h
  have c0 := hA.cell
  have HG := hide (getL_any _ G T m hA.tab e)
  rcases hA.cases e with ⟨h1, h2⟩ | ⟨i, b, l, rfl, h1, h2, h3, h4, h5, h6⟩
  · have hc : cnt bk e k = 0 := by unfold cnt; rw [h2]
    rw [h1] at HG
    simp only [ptr, Option.isSome_none] at HG
    rw [hc]
    clear hA h1 h2 hc
    go_enter Tryz.func18, Tryz.ntmps18
    go_wp2_with fail
    refine HG.out.mono ?_
    rintro e1 w1 ⟨rfl, rfl⟩
    go_wp2
    go_ret
    exact ⟨rfl, Below.refl _ _⟩
  · have hc : cnt bk (i : Int) k = (fit (fun r => decide (r.k = k)) (prs l 0)).length := by unfold cnt; rw [h4]
    rw [h3] at HG
    simp only [ptr, Option.isSome_some] at HG
    have HT := hide h6
    rw [hc]
    clear hA h1 h2 h3 h4 h5 h6 hc
    go_enter Tryz.func18, Tryz.ntmps18
    go_wp2_with fail
    refine HG.out.mono ?_
    rintro e1 w1 ⟨rfl, rfl⟩
    go_wp2_with fail
    refine (same_kind w1 k).mono ?_
    rintro e w4 ⟨rfl, hf4, hv4, hb4⟩
    go_wp2_with fail
    refine (fitting_any (fs i) b l w4 (HT.out.below hb4) 67 w1.heap.size (w1.heap.size + 1) _ _ _ (fits_kind _ _ k) hf4 hv4).mono ?_
    rintro e w5 ⟨v5, rfl, hrow, hb5⟩
    obtain ⟨a5, c5, rfl⟩ := own_shape hrow
    have HB := hide (hb4.trans (hb5.mono hb4.size))
    clear hrow hb5 hb4 hf4 hv4
    go_wp2
    go_ret
    exact ⟨rfl, HB.out⟩
end Go.Proofs.YteacmcdmdeckmaaGreat
