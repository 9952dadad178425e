import Derived.Test.YteacmcdmdeckmaaGreatX7
import Derived.Sort.Grow
namespace Go.Proofs.YteacmcdmdeckmaaGreat
open Go.RowKit Go.Shelf Go.Sort

def orr (a b : Int) : Int := if a = 0 then b else a
theorem or_orr (w : World) (g c : Nat) (a b : Int) (h0 : w.cell? ⟨g, 0, none⟩ = some (.int .i64 a)) (h1 : w.cell? ⟨g, 1, none⟩ = some (.int .i64 b)) :
    Calls Tryz.prog 84 #[.slice (some ⟨g, 0, none⟩) 2 c] w fun e w' => e = .returned (.int .i64 (orr a b)) ∧ w' = w := or_any w g c a b h0 h1
/-- how two places lie -/
def cp (x y : Nat × Nat) : Int := orr (ci x.1 y.1) (ci x.2 y.2)
set_option maxHeartbeats 4000000 in
theorem closure_any (W : World) (x y : Nat × Nat) : Calls Tryz.prog 83 #[.agg #[.int .i64 (x.1 : Int), .int .i64 (x.2 : Int)], .agg #[.int .i64 (y.1 : Int), .int .i64 (y.2 : Int)]] W fun e w' => e = .returned (.int .i64 (cp x y)) ∧ ∃ q os', w' = grow (W.drewN q) os' := by
  obtain ⟨x1, x2⟩ := x
  obtain ⟨y1, y2⟩ := y
  have HC := hide (fun w a b => compare_any w a b)
  have h1 := heap_alloc2_old W (.cells #[.int .i64 (x1 : Int), .int .i64 (x2 : Int)] 48) (.cells #[.int .i64 (y1 : Int), .int .i64 (y2 : Int)] 48)
  have h2 := heap_alloc2_new W (.cells #[.int .i64 (x1 : Int), .int .i64 (x2 : Int)] 48) (.cells #[.int .i64 (y1 : Int), .int .i64 (y2 : Int)] 48)
  have HW : Hid (∃ q os', ((W.alloc (.cells #[.int .i64 (x1 : Int), .int .i64 (x2 : Int)] 48)).alloc (.cells #[.int .i64 (y1 : Int), .int .i64 (y2 : Int)] 48)) = grow (W.drewN q) os') := hide ⟨0, _, by rw [alloc_eq_grow, alloc_eq_grow, grow_grow]; rfl⟩
  dsimp only
  go_enter Tryz.func83, Tryz.ntmps83
  go_upto_region 1 with fail
  generalize ((W.alloc (.cells #[.int .i64 (x1 : Int), .int .i64 (x2 : Int)] 48)).alloc (.cells #[.int .i64 (y1 : Int), .int .i64 (y2 : Int)] 48)) = w0 at *
  have c0 : (w0.drew.cell? ⟨W.heap.size, 0, none⟩ = some (.int .i64 (x1 : Int)) ∧ w0.drew.cell? ⟨W.heap.size, 1, none⟩ = some (.int .i64 (x2 : Int))) ∧ (w0.drew.cell? ⟨W.heap.size + 1, 0, none⟩ = some (.int .i64 (y1 : Int)) ∧ w0.drew.cell? ⟨W.heap.size + 1, 1, none⟩ = some (.int .i64 (y2 : Int))) := ⟨⟨(blk2 h1).1, (blk2 h1).2.1⟩, (blk2 h2).1, (blk2 h2).2.1⟩
  have HK : Hid (∀ o, ((w0.drew.alloc o).cell? ⟨W.heap.size, 0, none⟩ = some (.int .i64 (x1 : Int)) ∧ (w0.drew.alloc o).cell? ⟨W.heap.size, 1, none⟩ = some (.int .i64 (x2 : Int))) ∧ ((w0.drew.alloc o).cell? ⟨W.heap.size + 1, 0, none⟩ = some (.int .i64 (y1 : Int)) ∧ (w0.drew.alloc o).cell? ⟨W.heap.size + 1, 1, none⟩ = some (.int .i64 (y2 : Int)))) := hide (fun o => by
    have e1 : (w0.drew.alloc o).heap[W.heap.size]? = _ := (Below.heap_alloc w0.drew o _ (Array.getElem?_eq_some_iff.1 h1).1).trans h1
    have e2 : (w0.drew.alloc o).heap[W.heap.size + 1]? = _ := (Below.heap_alloc w0.drew o _ (Array.getElem?_eq_some_iff.1 h2).1).trans h2
    exact ⟨⟨(blk2 e1).1, (blk2 e1).2.1⟩, (blk2 e2).1, (blk2 e2).2.1⟩)
  have HO := hide (fun (w : World) (t : TypeId) (a b : Int) => or_orr (w.alloc (.cells #[.int .i64 a, .int .i64 b] t)).drew w.heap.size 2 a b (by have := heap_alloc_new w (.cells #[.int .i64 a, .int .i64 b] t); exact (blk2 this).1) (by have := heap_alloc_new w (.cells #[.int .i64 a, .int .i64 b] t); exact (blk2 this).2.1))
  clear h1 h2
  go_region_held (fun w => (w.cell? ⟨W.heap.size, 0, none⟩ = some (.int .i64 (x1 : Int)) ∧ w.cell? ⟨W.heap.size, 1, none⟩ = some (.int .i64 (x2 : Int))) ∧ (w.cell? ⟨W.heap.size + 1, 0, none⟩ = some (.int .i64 (y1 : Int)) ∧ w.cell? ⟨W.heap.size + 1, 1, none⟩ = some (.int .i64 (y2 : Int))))
    (first | assumption | exact c0 | exact HK.out _)
    (first | (go_at_call 85; refine (HC.out _ _ _).mono ?_; rintro e1 w1 ⟨rfl, hw1⟩; subst hw1) | (go_at_call 84; refine (HO.out _ _ _ _).mono ?_; rintro e1 w1 ⟨rfl, hw1⟩; subst hw1))
  all_goals
    go_wp2
    go_ret
    obtain ⟨q, os, hq⟩ := HW.out
    exact ⟨rfl, q + 1, _, by rw [hq, alloc_eq_grow, grow_grow, drew_grow]; rfl⟩
end Go.Proofs.YteacmcdmdeckmaaGreat
