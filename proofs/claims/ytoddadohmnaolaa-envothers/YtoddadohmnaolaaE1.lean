import Derived.Test.YtoddadohmnaolaaTE
import Derived.Deep.RegionHeld
import Derived.BigQuiet
import Derived.Deep.Cut
import Derived.Deep.DeepCutAuto
import Derived.WalkSmall
namespace Go.Proofs.Ytoddadohmnaolaa
open Go.RowKit

/-- a quota -/
structure Qt where
  f : Int
  e : Int
  x : Int
def Qt.val (q : Qt) : Value := .agg #[.int .i64 q.f, .int .i64 q.e, .int .i64 q.x]
theorem blk3 {w1 : World} {b : Nat} {x0 x1 x2 : Value} {t : TypeId} (h : w1.heap[b]? = some (.cells #[x0, x1, x2] t (0, 0))) :
    w1.cell? ⟨b, 0, none⟩ = some x0 ∧ w1.cell? ⟨b, 1, none⟩ = some x1 ∧ w1.cell? ⟨b, 2, none⟩ = some x2 ∧ w1.frozen? ⟨b, 0, none⟩ = false ∧ w1.frozen? ⟨b, 1, none⟩ = false ∧ w1.frozen? ⟨b, 2, none⟩ = false :=
  ⟨by rw [cell_of_row _ _ _ _ _ _ h]; rfl, by rw [cell_of_row _ _ _ _ _ _ h]; rfl, by rw [cell_of_row _ _ _ _ _ _ h]; rfl, frozen_of_row _ _ _ _ _ h, frozen_of_row _ _ _ _ _ h, frozen_of_row _ _ _ _ _ h⟩
theorem set3 {w : World} {b : Nat} {x0 x1 x2 : Value} {t : TypeId} (h : w.heap[b]? = some (.cells #[x0, x1, x2] t (0, 0))) (y0 y1 y2 : Value) :
    (((w.setCell ⟨b, 0, none⟩ y0).setCell ⟨b, 1, none⟩ y1).setCell ⟨b, 2, none⟩ y2).heap[b]? = some (.cells #[y0, y1, y2] t (0, 0)) := by
  have h1 := heap_setCell_same _ b 0 _ _ y0 h
  have h2 := heap_setCell_same _ b 1 _ _ y1 h1
  exact heap_setCell_same _ b 2 _ _ y2 h2
theorem results_row1 {P : Program} {fn : Func} {p : Tmp} {ty : TypeId} (h : fn.results = #[.cell p ty]) (tmps : Array Value) (w : World) (g : Nat) (t : TypeId) (cs : Array Value) (fr : Nat × Nat) (d : TypeDesc)
    (hp : tmps.getD p undef = .pointer (some ⟨g, 0, none⟩)) (hg : w.heap[g]? = some (.cells cs t fr))
    (hu : P.underlying ty = some d) (hd : (match d with | .struct _ | .array _ _ => true | _ => false) = true) (hi : (P.info? ty).map (·.size) = some cs.size) :
    (results fn tmps).run P w = .ok (.agg cs) w := by
  have hp' : tmps[p]?.getD undef = .pointer (some ⟨g, 0, none⟩) := by simpa using hp
  unfold results
  simp [h, hp', asAddr, run_loadVar_row w g t ty cs fr d hg hu hd hi]
def pt (n : Int) : Int := if n < 0 then 0 else if 4611686018427387903 < n then 4611686018427387903 else n
theorem part_any (w : World) (n : Int) : Calls Try.prog 67 #[.int .i64 n] w fun e w' => e = .returned (.int .i64 (pt n)) ∧ w' = w := by
  by_cases h1 : n < 0
  · have e : pt n = 0 := by unfold pt; rw [if_pos h1]
    have h2 : ¬ (4611686018427387903 : Int) < 0 := by omega
    rw [e]
    go_enter Try.func67, Try.ntmps67
    go_wp2
    go_ret
    exact ⟨rfl, rfl⟩
  · by_cases h2 : 4611686018427387903 < n
    · have e : pt n = 4611686018427387903 := by unfold pt; rw [if_neg h1, if_pos h2]
      rw [e]
      go_enter Try.func67, Try.ntmps67
      go_wp2
      go_ret
      exact ⟨rfl, rfl⟩
    · have e : pt n = n := by unfold pt; rw [if_neg h1, if_neg h2]
      rw [e]
      go_enter Try.func67, Try.ntmps67
      go_wp2
      go_ret
      exact ⟨rfl, rfl⟩
theorem isWord_any (w : World) (n : Int) : Calls Try.prog 33 #[.int .i64 n] w fun e w' => e = .returned (.bool (decide (0 ≤ n ∧ n ≤ 4294967295))) ∧ w' = w := by
  by_cases h1 : 0 ≤ n
  · by_cases h2 : n ≤ 4294967295
    · have hd : decide (0 ≤ n ∧ n ≤ 4294967295) = true := by simp [h1, h2]
      rw [hd]
      go_enter Try.func33, Try.ntmps33
      go_wp2
      go_ret
      exact ⟨rfl, rfl⟩
    · have hd : decide (0 ≤ n ∧ n ≤ 4294967295) = false := by simp; omega
      rw [hd]
      go_enter Try.func33, Try.ntmps33
      go_wp2
      go_ret
      exact ⟨rfl, rfl⟩
  · have hd : decide (0 ≤ n ∧ n ≤ 4294967295) = false := by simp; omega
    rw [hd]
    go_enter Try.func33, Try.ntmps33
    go_wp2
    go_ret
    exact ⟨rfl, rfl⟩
/-- all three parts within the bounds of sums -/
def Qt.ok (q : Qt) : Prop := (-4611686018427387904 ≤ q.f ∧ q.f ≤ 4611686018427387903) ∧ (-4611686018427387904 ≤ q.e ∧ q.e ≤ 4611686018427387903) ∧ (-4611686018427387904 ≤ q.x ∧ q.x ≤ 4611686018427387903)
def Qt.plus (p q : Qt) : Qt := ⟨p.f + q.f, p.e + q.e, p.x + q.x⟩
def Qt.less (p q : Qt) : Qt := ⟨p.f - q.f, p.e - q.e, p.x - q.x⟩
theorem below3 {B : Nat} {a w : World} (h : Below B a w) {b : Nat} (hb : B ≤ b) (y0 y1 y2 : Value) : Below B a (((w.setCell ⟨b, 0, none⟩ y0).setCell ⟨b, 1, none⟩ y1).setCell ⟨b, 2, none⟩ y2) :=
  ((h.setCell (p := ⟨b, 0, none⟩) hb _).setCell (p := ⟨b, 1, none⟩) hb _).setCell (p := ⟨b, 2, none⟩) hb _
set_option maxHeartbeats 1600000 in
theorem plus_any (w : World) (p q : Qt) (hp : p.ok) (hq : q.ok) : Calls Try.prog 61 #[p.val, q.val] w fun e w' => e = .returned (p.plus q).val ∧ Below w.heap.size w w' := by
  obtain ⟨⟨h1, h2⟩, ⟨h3, h4⟩, ⟨h5, h6⟩⟩ := hp
  obtain ⟨⟨k1, k2⟩, ⟨k3, k4⟩, ⟨k5, k6⟩⟩ := hq
  have hb1 := (Below.refl w.heap.size w).alloc (Nat.le_refl _) (.cells #[.int .i64 p.f, .int .i64 p.e, .int .i64 p.x] 39)
  have hb2 := hb1.alloc hb1.size (.cells #[.int .i64 q.f, .int .i64 q.e, .int .i64 q.x] 39)
  have hb3 := hb2.alloc hb2.size (.cells #[.int .i64 0, .int .i64 0, .int .i64 0] 39)
  have a1 := heap_alloc_new w (.cells #[.int .i64 p.f, .int .i64 p.e, .int .i64 p.x] 39)
  have a2 := heap_alloc_new (w.alloc (.cells #[.int .i64 p.f, .int .i64 p.e, .int .i64 p.x] 39)) (.cells #[.int .i64 q.f, .int .i64 q.e, .int .i64 q.x] 39)
  have a3 := heap_alloc_new ((w.alloc (.cells #[.int .i64 p.f, .int .i64 p.e, .int .i64 p.x] 39)).alloc (.cells #[.int .i64 q.f, .int .i64 q.e, .int .i64 q.x] 39)) (.cells #[.int .i64 0, .int .i64 0, .int .i64 0] 39)
  have e2 : (w.alloc (.cells #[.int .i64 p.f, .int .i64 p.e, .int .i64 p.x] 39)).heap.size = w.heap.size + 1 := by simp
  have e3 : ((w.alloc (.cells #[.int .i64 p.f, .int .i64 p.e, .int .i64 p.x] 39)).alloc (.cells #[.int .i64 q.f, .int .i64 q.e, .int .i64 q.x] 39)).heap.size = w.heap.size + 2 := by simp
  have b1 := (Below.heap_alloc _ (.cells #[.int .i64 0, .int .i64 0, .int .i64 0] 39) w.heap.size (by rw [e3]; omega)).trans ((Below.heap_alloc _ (.cells #[.int .i64 q.f, .int .i64 q.e, .int .i64 q.x] 39) w.heap.size (by rw [e2]; omega)).trans a1)
  rw [e2] at a2
  have b2 := (Below.heap_alloc _ (.cells #[.int .i64 0, .int .i64 0, .int .i64 0] 39) (w.heap.size + 1) (by rw [e3]; omega)).trans a2
  rw [e3] at a3
  have HB3 := hide hb3
  clear hb1 hb2 hb3 a1 a2 e2 e3
  unfold Qt.val
  go_enter Try.func61, Try.ntmps61
  go_upto_region 1 with fail
  generalize ((w.alloc (.cells #[.int .i64 p.f, .int .i64 p.e, .int .i64 p.x] 39)).alloc (.cells #[.int .i64 q.f, .int .i64 q.e, .int .i64 q.x] 39)).alloc (.cells #[.int .i64 0, .int .i64 0, .int .i64 0] 39) = w3 at *
  obtain ⟨c0, c1, c2, -, -, -⟩ := blk3 b1
  obtain ⟨d0, d1, d2, -, -, -⟩ := blk3 b2
  obtain ⟨r0, r1, r2, f0, f1, f2⟩ := blk3 a3
  have HS := hide (fun a b c => set3 a3 a b c)
  clear b1 b2 a3
  go_wp2
  refine bodyPost_ret (results_row1 rfl _ _ (w.heap.size + 2) 39 #[.int .i64 (p.f + q.f), .int .i64 (p.e + q.e), .int .i64 (p.x + q.x)] (0, 0) _ rfl (HS.out _ _ _) Try.underlying39 rfl (by kernel_rfl)) rfl ?_
  exact ⟨rfl, below3 HB3.out (by omega) _ _ _⟩
end Go.Proofs.Ytoddadohmnaolaa
