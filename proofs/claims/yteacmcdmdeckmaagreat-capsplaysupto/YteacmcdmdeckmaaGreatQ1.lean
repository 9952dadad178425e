import Derived.Test.YteacmcdmdeckmaaGreatB4
import Derived.Test.YteacmcdmdeckmaaGreatPR
import Derived.Test.YteacmcdmdeckmaaGreatPL
import Derived.BigQuiet
import Derived.Deep.QuietTactic
namespace Go.Proofs.YteacmcdmdeckmaaGreat
open Go.RowKit

/-- a test of records: a function with two boxes -/
def fv (g bf bv : Nat) : Value := .func (.func g) #[] #[.pointer (some ⟨bf, 0, none⟩), .pointer (some ⟨bv, 0, none⟩)]
structure Fits (g bf bv : Nat) (fo vo : Obj) (P : Rc → Bool) : Prop where
  run : ∀ (W : World) (r : Rc), W.heap[bf]? = some fo → W.heap[bv]? = some vo → Calls Tryz.prog g #[r.val, .pointer (some ⟨bf, 0, none⟩), .pointer (some ⟨bv, 0, none⟩)] W fun e w' => e = .returned (.bool (P r)) ∧ Below W.heap.size W w'
  ent : ∀ args w, (callFunc g args).run Tryz.prog w = .ok (.enter g args) w

theorem blk2 {w1 : World} {b : Nat} {x0 x1 : Value} {t : TypeId} (h : w1.heap[b]? = some (.cells #[x0, x1] t (0, 0))) :
    w1.cell? ⟨b, 0, none⟩ = some x0 ∧ w1.cell? ⟨b, 1, none⟩ = some x1 ∧ w1.frozen? ⟨b, 0, none⟩ = false ∧ w1.frozen? ⟨b, 1, none⟩ = false :=
  ⟨by rw [cell_of_row _ _ _ _ _ _ h]; rfl, by rw [cell_of_row _ _ _ _ _ _ h]; rfl, frozen_of_row _ _ _ _ _ h, frozen_of_row _ _ _ _ _ h⟩

/-- a region that draws its order, none of whose steps turns an old block: one walk, in the order of the text -/
theorem region_below {P : Program} {id : Nat} {Q : Exit → Act → World → Prop} {a : Act} {w : World} {l : List Oper} (hm : P.follows .mixedOrders = true) (hB : Region.lexB .any l.toArray = true)
    (h : wpQuiet P l.toArray (fun w' => Below w.heap.size w w') (fun a' => ∀ w', Below w.heap.size w w' → Q .normal a' w') l a) : (Code.region id l.toArray true).wp P Q a w :=
  wp_region_quiet (C := fun w' => Below w.heap.size w w') hm hB (Below.refl _ _).drew (by simpa using h)
/-- a call there -/
theorem calls_below {P : Program} {f : FuncId} {args : Array Value} {w w' : World} {v : Value} (hw : Below w.heap.size w w') (h : Calls P f args w' fun e w'' => e = .returned v ∧ Below w'.heap.size w' w'') :
    Calls P f args w' fun e w'' => e = .returned v ∧ Below w.heap.size w w'' :=
  h.mono fun _ _ ⟨he, hm⟩ => ⟨he, hw.trans (hm.mono hw.size)⟩
set_option maxHeartbeats 1600000 in
theorem fits_parent (bf bv : Nat) (x y : Int) : Fits 105 bf bv (.cells #[.func (.func 30) #[] #[]] 128 (0, 0)) (.cells #[.int .i64 x, .int .i64 y] 48 (0, 0)) (fun r => decide (r.e = x) && decide (r.t = y)) where
  run := by
    intro W r hf hv
    have hB := fun o => (Below.refl W.heap.size W).alloc (Nat.le_refl _) o
    have HP := hide (fun W => parent_any W r)
    simp only [Rc.val] at HP ⊢
    have hR := heap_alloc_new W (.cells #[.int .i64 r.k, .int .i64 r.o, .int .i64 r.s, .int .i64 r.r, .int .i64 r.e, .int .i64 r.t] 65)
    have hf1 := (Below.heap_alloc W (.cells #[.int .i64 r.k, .int .i64 r.o, .int .i64 r.s, .int .i64 r.r, .int .i64 r.e, .int .i64 r.t] 65) bf (Array.getElem?_eq_some_iff.1 hf).1).trans hf
    have hv1 := (Below.heap_alloc W (.cells #[.int .i64 r.k, .int .i64 r.o, .int .i64 r.s, .int .i64 r.r, .int .i64 r.e, .int .i64 r.t] 65) bv (Array.getElem?_eq_some_iff.1 hv).1).trans hv
    have HB := hide (hB (.cells #[.int .i64 r.k, .int .i64 r.o, .int .i64 r.s, .int .i64 r.r, .int .i64 r.e, .int .i64 r.t] 65))
    have HS : W.heap.size ≤ (W.alloc (.cells #[.int .i64 r.k, .int .i64 r.o, .int .i64 r.s, .int .i64 r.r, .int .i64 r.e, .int .i64 r.t] 65)).heap.size := by simp
    clear hf hv hB
    go_enter Tryz.func105, Tryz.ntmps105
    go_wp2_with fail
    generalize W.alloc (.cells #[.int .i64 r.k, .int .i64 r.o, .int .i64 r.s, .int .i64 r.r, .int .i64 r.e, .int .i64 r.t] 65) = W1 at *
    refine region_below (by kernel_rfl) (by kernel_rfl) ?_
    refine wpQuiet_step (fun K hK => ?_)
    go_simp
    refine ⟨.func (.func 30) #[] #[], fun w' hw' => ?_, hK _ ?_⟩
    · have c0 := blk1 ((hw'.block bf (Array.getElem?_eq_some_iff.1 hf1).1).trans hf1)
      go_simp
    clear hK K
    refine wpQuiet_step (fun K hK => ?_)
    go_simp
    refine ⟨.agg #[.int .i64 r.k, .int .i64 r.o, .int .i64 r.s, .int .i64 r.r, .int .i64 r.e, .int .i64 r.t], fun w' hw' => ?_, hK _ ?_⟩
    · obtain ⟨d0, d1, d2, d3, d4, d5, _, _, _, _, _, _⟩ := blk6 ((hw'.block W.heap.size (Array.getElem?_eq_some_iff.1 hR).1).trans hR)
      go_simp
    clear hK K
    refine wpQuiet_step (fun K hK => ?_)
    go_simp
    refine ⟨.agg #[.int .i64 r.e, .int .i64 r.t], fun w' hw' => calls_below hw' (HP.out w'), hK _ ?_⟩
    clear hK K
    refine wpQuiet_step (fun K hK => ?_)
    go_simp
    refine ⟨.agg #[.int .i64 x, .int .i64 y], fun w' hw' => ?_, hK _ ?_⟩
    · obtain ⟨d0, d1, _, _⟩ := blk2 ((hw'.block bv (Array.getElem?_eq_some_iff.1 hv1).1).trans hv1)
      go_simp
    clear hK K
    refine wpQuiet_step (fun K hK => ?_)
    go_simp
    refine ⟨.bool (decide (r.e = x) && decide (r.t = y)), fun w' hw' => ?_, hK _ ?_⟩
    · by_cases h1 : r.e = x <;> by_cases h2 : r.t = y <;> simp [h1, h2]
    clear hK K
    refine wpQuiet_step (fun K hK => ?_)
    go_simp
    refine ⟨_, fun _ _ => rfl, hK _ ?_⟩
    clear hK K
    refine wpQuiet_nil ?_
    intro w' hw'
    go_wp2
    go_ret
    exact ⟨rfl, HB.out.trans (hw'.mono HS)⟩
  ent := enters_of Tryz.func105 (by kernel_rfl) rfl
set_option maxHeartbeats 1600000 in
theorem fits_object (bf bv : Nat) (x y : Int) : Fits 69 bf bv (.cells #[.func (.func 42) #[] #[]] 92 (0, 0)) (.cells #[.int .i64 x, .int .i64 y] 91 (0, 0)) (fun r => decide (r.k = x) && decide (r.o = y)) where
  run := by
    intro W r hf hv
    have hB := fun o => (Below.refl W.heap.size W).alloc (Nat.le_refl _) o
    have HP := hide (fun W => object_any W r)
    simp only [Rc.val] at HP ⊢
    have hR := heap_alloc_new W (.cells #[.int .i64 r.k, .int .i64 r.o, .int .i64 r.s, .int .i64 r.r, .int .i64 r.e, .int .i64 r.t] 65)
    have hf1 := (Below.heap_alloc W (.cells #[.int .i64 r.k, .int .i64 r.o, .int .i64 r.s, .int .i64 r.r, .int .i64 r.e, .int .i64 r.t] 65) bf (Array.getElem?_eq_some_iff.1 hf).1).trans hf
    have hv1 := (Below.heap_alloc W (.cells #[.int .i64 r.k, .int .i64 r.o, .int .i64 r.s, .int .i64 r.r, .int .i64 r.e, .int .i64 r.t] 65) bv (Array.getElem?_eq_some_iff.1 hv).1).trans hv
    have HB := hide (hB (.cells #[.int .i64 r.k, .int .i64 r.o, .int .i64 r.s, .int .i64 r.r, .int .i64 r.e, .int .i64 r.t] 65))
    have HS : W.heap.size ≤ (W.alloc (.cells #[.int .i64 r.k, .int .i64 r.o, .int .i64 r.s, .int .i64 r.r, .int .i64 r.e, .int .i64 r.t] 65)).heap.size := by simp
    clear hf hv hB
    go_enter Tryz.func69, Tryz.ntmps69
    go_wp2_with fail
    generalize W.alloc (.cells #[.int .i64 r.k, .int .i64 r.o, .int .i64 r.s, .int .i64 r.r, .int .i64 r.e, .int .i64 r.t] 65) = W1 at *
    refine region_below (by kernel_rfl) (by kernel_rfl) ?_
    refine wpQuiet_step (fun K hK => ?_)
    go_simp
    refine ⟨.func (.func 42) #[] #[], fun w' hw' => ?_, hK _ ?_⟩
    · have c0 := blk1 ((hw'.block bf (Array.getElem?_eq_some_iff.1 hf1).1).trans hf1)
      go_simp
    clear hK K
    refine wpQuiet_step (fun K hK => ?_)
    go_simp
    refine ⟨.agg #[.int .i64 r.k, .int .i64 r.o, .int .i64 r.s, .int .i64 r.r, .int .i64 r.e, .int .i64 r.t], fun w' hw' => ?_, hK _ ?_⟩
    · obtain ⟨d0, d1, d2, d3, d4, d5, _, _, _, _, _, _⟩ := blk6 ((hw'.block W.heap.size (Array.getElem?_eq_some_iff.1 hR).1).trans hR)
      go_simp
    clear hK K
    refine wpQuiet_step (fun K hK => ?_)
    go_simp
    refine ⟨.agg #[.int .i64 r.k, .int .i64 r.o], fun w' hw' => calls_below hw' (HP.out w'), hK _ ?_⟩
    clear hK K
    refine wpQuiet_step (fun K hK => ?_)
    go_simp
    refine ⟨.agg #[.int .i64 x, .int .i64 y], fun w' hw' => ?_, hK _ ?_⟩
    · obtain ⟨d0, d1, _, _⟩ := blk2 ((hw'.block bv (Array.getElem?_eq_some_iff.1 hv1).1).trans hv1)
      go_simp
    clear hK K
    refine wpQuiet_step (fun K hK => ?_)
    go_simp
    refine ⟨.bool (decide (r.k = x) && decide (r.o = y)), fun w' hw' => ?_, hK _ ?_⟩
    · by_cases h1 : r.k = x <;> by_cases h2 : r.o = y <;> simp [h1, h2]
    clear hK K
    refine wpQuiet_step (fun K hK => ?_)
    go_simp
    refine ⟨_, fun _ _ => rfl, hK _ ?_⟩
    clear hK K
    refine wpQuiet_nil ?_
    intro w' hw'
    go_wp2
    go_ret
    exact ⟨rfl, HB.out.trans (hw'.mono HS)⟩
  ent := enters_of Tryz.func69 (by kernel_rfl) rfl
set_option maxHeartbeats 400000 in
theorem same_parent (W : World) (x y : Int) : Calls Tryz.prog 94 #[.func (.func 30) #[] #[], .agg #[.int .i64 x, .int .i64 y]] W fun e w' => e = .returned (fv 105 W.heap.size (W.heap.size + 1)) ∧
    w'.heap[W.heap.size]? = some (.cells #[.func (.func 30) #[] #[]] 128 (0, 0)) ∧ w'.heap[W.heap.size + 1]? = some (.cells #[.int .i64 x, .int .i64 y] 48 (0, 0)) ∧ Below W.heap.size W w' := by
  have hb := fun o o' => ((Below.refl W.heap.size W).alloc (Nat.le_refl _) o).alloc (by simp) o'
  have h1 := fun o o' => heap_alloc2_old W o o'
  have h2 := fun o o' => heap_alloc2_new W o o'
  go_enter Tryz.func94, Tryz.ntmps94
  go_wp2
  go_ret
  exact ⟨rfl, h1 _ _, h2 _ _, hb _ _⟩
set_option maxHeartbeats 400000 in
theorem same_object (W : World) (x y : Int) : Calls Tryz.prog 41 #[.func (.func 42) #[] #[], .agg #[.int .i64 x, .int .i64 y]] W fun e w' => e = .returned (fv 69 W.heap.size (W.heap.size + 1)) ∧
    w'.heap[W.heap.size]? = some (.cells #[.func (.func 42) #[] #[]] 92 (0, 0)) ∧ w'.heap[W.heap.size + 1]? = some (.cells #[.int .i64 x, .int .i64 y] 91 (0, 0)) ∧ Below W.heap.size W w' := by
  have hb := fun o o' => ((Below.refl W.heap.size W).alloc (Nat.le_refl _) o).alloc (by simp) o'
  have h1 := fun o o' => heap_alloc2_old W o o'
  have h2 := fun o o' => heap_alloc2_new W o o'
  go_enter Tryz.func41, Tryz.ntmps41
  go_wp2
  go_ret
  exact ⟨rfl, h1 _ _, h2 _ _, hb _ _⟩
end Go.Proofs.YteacmcdmdeckmaaGreat
