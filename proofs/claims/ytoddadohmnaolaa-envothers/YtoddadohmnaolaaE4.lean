import Derived.Test.YtoddadohmnaolaaE3
namespace Go.Proofs.Ytoddadohmnaolaa
open Go.RowKit

/-- an environment's record: what is told of it, and its quota book -/
structure Er where
  se : Int
  pa : Int
  st : Int
  co : Int
  bi : Int
  fz : Bool
  rg : Nat → Nat
  pc : Nat
  qu : Qt
  lf : Qt
  pd : Qt
  le : Qt
def Er.cells (e : Er) : List Value :=
  [.int .i64 e.se, .int .i64 e.pa, .int .i64 e.st, .int .i64 e.co, .int .i64 e.bi, .bool e.fz, .int .u32 (e.rg 0 : Nat), .int .u32 (e.rg 1 : Nat), .int .u32 (e.rg 2 : Nat), .int .u32 (e.rg 3 : Nat), .int .u32 (e.rg 4 : Nat), .int .u32 (e.rg 5 : Nat), .int .u32 (e.rg 6 : Nat), .int .u32 (e.rg 7 : Nat), .int .u32 (e.pc : Nat),
   .int .i64 e.qu.f, .int .i64 e.qu.e, .int .i64 e.qu.x, .int .i64 e.lf.f, .int .i64 e.lf.e, .int .i64 e.lf.x, .int .i64 e.pd.f, .int .i64 e.pd.e, .int .i64 e.pd.x, .int .i64 e.le.f, .int .i64 e.le.e, .int .i64 e.le.x]
def Qt.zero : Qt := ⟨0, 0, 0⟩
def Er.new (se pa : Int) (q : Qt) : Er := ⟨se, pa, 0, 0, 0, false, fun _ => 0, 0, q, Qt.zero, Qt.zero, q⟩
/-- a record at block b -/
structure Rb (w : World) (b : Nat) (e : Er) : Prop where
  out : w.heap[b]? = some (.cells e.cells.toArray 82 (0, 0))
theorem Rb.get {w : World} {b : Nat} {e : Er} (h : Rb w b e) {j : Nat} {v : Value} (hv : e.cells[j]? = some v) : w.cell? ⟨b, j, none⟩ = some v := by
  rw [cell_of_row _ _ _ _ _ _ h.out]; simpa using hv
theorem Rb.frz {w : World} {b : Nat} {e : Er} (h : Rb w b e) (j : Nat) : w.frozen? ⟨b, j, none⟩ = false := frozen_of_row _ _ _ _ _ h.out
theorem Rb.lt {w : World} {b : Nat} {e : Er} (h : Rb w b e) : b < w.heap.size := (Array.getElem?_eq_some_iff.1 h.out).1
theorem Rb.keep {w w' : World} {b : Nat} {e : Er} (h : Rb w b e) (hk : w'.heap[b]? = w.heap[b]?) : Rb w' b e := ⟨hk.trans h.out⟩
/-- a cell of a record is set -/
theorem Rb.set {w : World} {b : Nat} {e e' : Er} (h : Rb w b e) {j : Nat} {u : Value} (he : e.cells.set j u = e'.cells) : Rb (w.setCell ⟨b, j, none⟩ u) b e' := by
  refine ⟨?_⟩
  have h1 := heap_setCell_same _ b j _ _ u h.out
  rw [h1, ← he]
  congr 2
  simp
set_option maxHeartbeats 3200000 in
theorem newRecord_any (w : World) (se pa : Int) (q : Qt) : Calls Try.prog 46 #[.int .i64 se, .int .i64 pa, q.val] w fun e w' => ∃ b, e = .returned (.pointer (some ⟨b, 0, none⟩)) ∧ Rb w' b (Er.new se pa q) ∧ w.heap.size ≤ b ∧ Below w.heap.size w w' := by
  have hb1 := (Below.refl w.heap.size w).alloc (Nat.le_refl _) (.cells #[.int .i64 q.f, .int .i64 q.e, .int .i64 q.x] 39)
  have a1 := heap_alloc_new w (.cells #[.int .i64 q.f, .int .i64 q.e, .int .i64 q.x] 39)
  have HB1 := hide hb1
  clear hb1
  unfold Qt.val
  go_enter Try.func46, Try.ntmps46
  go_upto_region 1 with fail
  generalize w.alloc (.cells #[.int .i64 q.f, .int .i64 q.e, .int .i64 q.x] 39) = w1 at *
  obtain ⟨c0, c1, c2, -, -, -⟩ := blk3 a1
  clear a1
  go_wp2
  go_ret
  exact ⟨w1.heap.size, rfl, ⟨heap_alloc_new w1 _⟩, HB1.out.size, HB1.out.alloc HB1.out.size _⟩
end Go.Proofs.Ytoddadohmnaolaa
