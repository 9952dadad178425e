import Derived.Deep.RegionHeld
import Derived.BigQuiet
import Derived.Deep.Cut
import Derived.Deep.DeepCutAuto
import Derived.WalkSmall
import Derived.Test.YtbocpmcodlceoaaGreatMA
namespace Go.Proofs.YtbocpmcodlceoaaGreat
open Go.RowKit

/-- a quota -/
structure Qt where
  f : Int
  e : Int
  x : Int
def Qt.val (q : Qt) : Value := .agg #[.int .i64 q.f, .int .i64 q.e, .int .i64 q.x]
theorem blk3 {w1 : World} {b : Nat} {x0 x1 x2 : Value} {t : TypeId} (h : w1.heap[b]? = some (.cells #[x0, x1, x2] t (0, 0))) :
    w1.cell? ⟨b, 0, none⟩ = some x0 ∧ w1.cell? ⟨b, 1, none⟩ = some x1 ∧ w1.cell? ⟨b, 2, none⟩ = some x2 ∧ w1.frozen? ⟨b, 0, none⟩ = false ∧ w1.frozen? ⟨b, 1, none⟩ = false ∧ w1.frozen? ⟨b, 2, none⟩ = false :=
  ⟨by rw [cell_of_row _ _ _ _ _ _ h]; rfl, by rw [cell_of_row _ _ _ _ _ _ h]; rfl, by rw [cell_of_row _ _ _ _ _ _ h]; rfl, frozen_of_row _ _ _ _ _ h, frozen_of_row _ _ _ _ _ h, frozen_of_row _ _ _ _ _ h⟩
theorem set3 {w : World} {b : Nat} {x0 x1 x2 : Value} {t : TypeId} (h : w.heap[b]? = some (.cells #[x0, x1, x2] t (0, 0))) (y0 y1 y2 : Value) :
    (((w.setCell ⟨b, 0, none⟩ y0).setCell ⟨b, 1, none⟩ y1).setCell ⟨b, 2, none⟩ y2).heap[b]? = some (.cells #[y0, y1, y2] t (0, 0)) := by
  have h1 := heap_setCell_same _ b 0 _ _ y0 h
  have h2 := heap_setCell_same _ b 1 _ _ y1 h1
  exact heap_setCell_same _ b 2 _ _ y2 h2
theorem results_row1 {P : Program} {fn : Func} {p : Tmp} {ty : TypeId} (h : fn.results = #[.cell p ty]) (tmps : Array Value) (w : World) (g : Nat) (t : TypeId) (cs : Array Value) (fr : Nat × Nat) (d : TypeDesc)
    (hp : tmps.getD p undef = .pointer (some ⟨g, 0, none⟩)) (hg : w.heap[g]? = some (.cells cs t fr))
    (hu : P.underlying ty = some d) (hd : (match d with | .struct _ | .array _ _ => true | _ => false) = true) (hi : (P.info? ty).map (·.size) = some cs.size) :
    (results fn tmps).run P w = .ok (.agg cs) w := by
  have hp' : tmps[p]?.getD undef = .pointer (some ⟨g, 0, none⟩) := by simpa using hp
  unfold results
  simp [h, hp', asAddr, run_loadVar_row w g t ty cs fr d hg hu hd hi]
def pt (n : Int) : Int := if n < 0 then 0 else if 4611686018427387903 < n then 4611686018427387903 else n
theorem part_any (w : World) (n : Int) : Calls Tryz.prog 83 #[.int .i64 n] w fun e w' => e = .returned (.int .i64 (pt n)) ∧ w' = w := by
  by_cases h1 : n < 0
  · have e : pt n = 0 := by unfold pt; rw [if_pos h1]
    have h2 : ¬ (4611686018427387903 : Int) < 0 := by omega
    rw [e]
    go_enter Tryz.func83, Tryz.ntmps83
    go_wp2
    go_ret
    exact ⟨rfl, rfl⟩
  · by_cases h2 : 4611686018427387903 < n
    · have e : pt n = 4611686018427387903 := by unfold pt; rw [if_neg h1, if_pos h2]
      rw [e]
      go_enter Tryz.func83, Tryz.ntmps83
      go_wp2
      go_ret
      exact ⟨rfl, rfl⟩
    · have e : pt n = n := by unfold pt; rw [if_neg h1, if_neg h2]
      rw [e]
      go_enter Tryz.func83, Tryz.ntmps83
      go_wp2
      go_ret
      exact ⟨rfl, rfl⟩
theorem isWord_any (w : World) (n : Int) : Calls Tryz.prog 72 #[.int .i64 n] w fun e w' => e = .returned (.bool (decide (0 ≤ n ∧ n ≤ 4294967295))) ∧ w' = w := by
  by_cases h1 : 0 ≤ n
  · by_cases h2 : n ≤ 4294967295
    · have hd : decide (0 ≤ n ∧ n ≤ 4294967295) = true := by simp [h1, h2]
      rw [hd]
      go_enter Tryz.func72, Tryz.ntmps72
      go_wp2
      go_ret
      exact ⟨rfl, rfl⟩
    · have hd : decide (0 ≤ n ∧ n ≤ 4294967295) = false := by simp; omega
      rw [hd]
      go_enter Tryz.func72, Tryz.ntmps72
      go_wp2
      go_ret
      exact ⟨rfl, rfl⟩
  · have hd : decide (0 ≤ n ∧ n ≤ 4294967295) = false := by simp; omega
    rw [hd]
    go_enter Tryz.func72, Tryz.ntmps72
    go_wp2
    go_ret
    exact ⟨rfl, rfl⟩
/-- all three parts within the bounds of sums -/
def Qt.ok (q : Qt) : Prop := (-4611686018427387904 ≤ q.f ∧ q.f ≤ 4611686018427387903) ∧ (-4611686018427387904 ≤ q.e ∧ q.e ≤ 4611686018427387903) ∧ (-4611686018427387904 ≤ q.x ∧ q.x ≤ 4611686018427387903)
def Qt.plus (p q : Qt) : Qt := ⟨p.f + q.f, p.e + q.e, p.x + q.x⟩
def Qt.less (p q : Qt) : Qt := ⟨p.f - q.f, p.e - q.e, p.x - q.x⟩
theorem below3 {B : Nat} {a w : World} (h : Below B a w) {b : Nat} (hb : B ≤ b) (y0 y1 y2 : Value) : Below B a (((w.setCell ⟨b, 0, none⟩ y0).setCell ⟨b, 1, none⟩ y1).setCell ⟨b, 2, none⟩ y2) :=
  ((h.setCell (p := ⟨b, 0, none⟩) hb _).setCell (p := ⟨b, 1, none⟩) hb _).setCell (p := ⟨b, 2, none⟩) hb _
set_option maxHeartbeats 1600000 in
theorem plus_any (w : World) (p q : Qt) (hp : p.ok) (hq : q.ok) : Calls Tryz.prog 86 #[p.val, q.val] w fun e w' => e = .returned (p.plus q).val ∧ Below w.heap.size w w' := by
  obtain ⟨⟨h1, h2⟩, ⟨h3, h4⟩, ⟨h5, h6⟩⟩ := hp
  obtain ⟨⟨k1, k2⟩, ⟨k3, k4⟩, ⟨k5, k6⟩⟩ := hq
  have hb1 := (Below.refl w.heap.size w).alloc (Nat.le_refl _) (.cells #[.int .i64 p.f, .int .i64 p.e, .int .i64 p.x] 30)
  have hb2 := hb1.alloc hb1.size (.cells #[.int .i64 q.f, .int .i64 q.e, .int .i64 q.x] 30)
  have hb3 := hb2.alloc hb2.size (.cells #[.int .i64 0, .int .i64 0, .int .i64 0] 30)
  have a1 := heap_alloc_new w (.cells #[.int .i64 p.f, .int .i64 p.e, .int .i64 p.x] 30)
  have a2 := heap_alloc_new (w.alloc (.cells #[.int .i64 p.f, .int .i64 p.e, .int .i64 p.x] 30)) (.cells #[.int .i64 q.f, .int .i64 q.e, .int .i64 q.x] 30)
  have a3 := heap_alloc_new ((w.alloc (.cells #[.int .i64 p.f, .int .i64 p.e, .int .i64 p.x] 30)).alloc (.cells #[.int .i64 q.f, .int .i64 q.e, .int .i64 q.x] 30)) (.cells #[.int .i64 0, .int .i64 0, .int .i64 0] 30)
  have e2 : (w.alloc (.cells #[.int .i64 p.f, .int .i64 p.e, .int .i64 p.x] 30)).heap.size = w.heap.size + 1 := by simp
  have e3 : ((w.alloc (.cells #[.int .i64 p.f, .int .i64 p.e, .int .i64 p.x] 30)).alloc (.cells #[.int .i64 q.f, .int .i64 q.e, .int .i64 q.x] 30)).heap.size = w.heap.size + 2 := by simp
  have b1 := (Below.heap_alloc _ (.cells #[.int .i64 0, .int .i64 0, .int .i64 0] 30) w.heap.size (by rw [e3]; omega)).trans ((Below.heap_alloc _ (.cells #[.int .i64 q.f, .int .i64 q.e, .int .i64 q.x] 30) w.heap.size (by rw [e2]; omega)).trans a1)
  rw [e2] at a2
  have b2 := (Below.heap_alloc _ (.cells #[.int .i64 0, .int .i64 0, .int .i64 0] 30) (w.heap.size + 1) (by rw [e3]; omega)).trans a2
  rw [e3] at a3
  have HB3 := hide hb3
  clear hb1 hb2 hb3 a1 a2 e2 e3
  unfold Qt.val
  go_enter Tryz.func86, Tryz.ntmps86
  go_upto_region 1 with fail
  generalize ((w.alloc (.cells #[.int .i64 p.f, .int .i64 p.e, .int .i64 p.x] 30)).alloc (.cells #[.int .i64 q.f, .int .i64 q.e, .int .i64 q.x] 30)).alloc (.cells #[.int .i64 0, .int .i64 0, .int .i64 0] 30) = w3 at *
  obtain ⟨c0, c1, c2, -, -, -⟩ := blk3 b1
  obtain ⟨d0, d1, d2, -, -, -⟩ := blk3 b2
  obtain ⟨r0, r1, r2, f0, f1, f2⟩ := blk3 a3
  have HS := hide (fun a b c => set3 a3 a b c)
  clear b1 b2 a3
  go_wp2
  refine bodyPost_ret (results_row1 rfl _ _ (w.heap.size + 2) 30 #[.int .i64 (p.f + q.f), .int .i64 (p.e + q.e), .int .i64 (p.x + q.x)] (0, 0) _ rfl (HS.out _ _ _) Tryz.underlying30 rfl (by kernel_rfl)) rfl ?_
  exact ⟨rfl, below3 HB3.out (by omega) _ _ _⟩
end Go.Proofs.YtbocpmcodlceoaaGreat

namespace Go.Proofs.YtbocpmcodlceoaaGreat
open Go.RowKit

set_option maxHeartbeats 1600000 in
theorem less_any (w : World) (p q : Qt) (hp : p.ok) (hq : q.ok) : Calls Tryz.prog 87 #[p.val, q.val] w fun e w' => e = .returned (p.less q).val ∧ Below w.heap.size w w' := by
  obtain ⟨⟨h1, h2⟩, ⟨h3, h4⟩, ⟨h5, h6⟩⟩ := hp
  obtain ⟨⟨k1, k2⟩, ⟨k3, k4⟩, ⟨k5, k6⟩⟩ := hq
  have hb1 := (Below.refl w.heap.size w).alloc (Nat.le_refl _) (.cells #[.int .i64 p.f, .int .i64 p.e, .int .i64 p.x] 30)
  have hb2 := hb1.alloc hb1.size (.cells #[.int .i64 q.f, .int .i64 q.e, .int .i64 q.x] 30)
  have hb3 := hb2.alloc hb2.size (.cells #[.int .i64 0, .int .i64 0, .int .i64 0] 30)
  have a1 := heap_alloc_new w (.cells #[.int .i64 p.f, .int .i64 p.e, .int .i64 p.x] 30)
  have a2 := heap_alloc_new (w.alloc (.cells #[.int .i64 p.f, .int .i64 p.e, .int .i64 p.x] 30)) (.cells #[.int .i64 q.f, .int .i64 q.e, .int .i64 q.x] 30)
  have a3 := heap_alloc_new ((w.alloc (.cells #[.int .i64 p.f, .int .i64 p.e, .int .i64 p.x] 30)).alloc (.cells #[.int .i64 q.f, .int .i64 q.e, .int .i64 q.x] 30)) (.cells #[.int .i64 0, .int .i64 0, .int .i64 0] 30)
  have e2 : (w.alloc (.cells #[.int .i64 p.f, .int .i64 p.e, .int .i64 p.x] 30)).heap.size = w.heap.size + 1 := by simp
  have e3 : ((w.alloc (.cells #[.int .i64 p.f, .int .i64 p.e, .int .i64 p.x] 30)).alloc (.cells #[.int .i64 q.f, .int .i64 q.e, .int .i64 q.x] 30)).heap.size = w.heap.size + 2 := by simp
  have b1 := (Below.heap_alloc _ (.cells #[.int .i64 0, .int .i64 0, .int .i64 0] 30) w.heap.size (by rw [e3]; omega)).trans ((Below.heap_alloc _ (.cells #[.int .i64 q.f, .int .i64 q.e, .int .i64 q.x] 30) w.heap.size (by rw [e2]; omega)).trans a1)
  rw [e2] at a2
  have b2 := (Below.heap_alloc _ (.cells #[.int .i64 0, .int .i64 0, .int .i64 0] 30) (w.heap.size + 1) (by rw [e3]; omega)).trans a2
  rw [e3] at a3
  have HB3 := hide hb3
  clear hb1 hb2 hb3 a1 a2 e2 e3
  unfold Qt.val
  go_enter Tryz.func87, Tryz.ntmps87
  go_upto_region 1 with fail
  generalize ((w.alloc (.cells #[.int .i64 p.f, .int .i64 p.e, .int .i64 p.x] 30)).alloc (.cells #[.int .i64 q.f, .int .i64 q.e, .int .i64 q.x] 30)).alloc (.cells #[.int .i64 0, .int .i64 0, .int .i64 0] 30) = w3 at *
  obtain ⟨c0, c1, c2, -, -, -⟩ := blk3 b1
  obtain ⟨d0, d1, d2, -, -, -⟩ := blk3 b2
  obtain ⟨r0, r1, r2, f0, f1, f2⟩ := blk3 a3
  have HS := hide (fun a b c => set3 a3 a b c)
  clear b1 b2 a3
  go_wp2
  refine bodyPost_ret (results_row1 rfl _ _ (w.heap.size + 2) 30 #[.int .i64 (p.f - q.f), .int .i64 (p.e - q.e), .int .i64 (p.x - q.x)] (0, 0) _ rfl (HS.out _ _ _) Tryz.underlying30 rfl (by kernel_rfl)) rfl ?_
  exact ⟨rfl, below3 HB3.out (by omega) _ _ _⟩
abbrev Qt.le (p q : Qt) : Prop := p.f ≤ q.f ∧ p.e ≤ q.e ∧ p.x ≤ q.x
set_option maxHeartbeats 1600000 in
theorem fits_any (w : World) (p q : Qt) : Calls Tryz.prog 85 #[p.val, q.val] w fun e w' => e = .returned (.bool (decide (p.le q))) ∧ Below w.heap.size w w' := by
  obtain ⟨bb, hbb⟩ : ∃ bb, decide (p.le q) = bb := ⟨_, rfl⟩
  rw [hbb]
  have HD := hide hbb
  clear hbb
  have hb1 := (Below.refl w.heap.size w).alloc (Nat.le_refl _) (.cells #[.int .i64 p.f, .int .i64 p.e, .int .i64 p.x] 30)
  have hb2 := hb1.alloc hb1.size (.cells #[.int .i64 q.f, .int .i64 q.e, .int .i64 q.x] 30)
  have a1 := heap_alloc_new w (.cells #[.int .i64 p.f, .int .i64 p.e, .int .i64 p.x] 30)
  have a2 := heap_alloc_new (w.alloc (.cells #[.int .i64 p.f, .int .i64 p.e, .int .i64 p.x] 30)) (.cells #[.int .i64 q.f, .int .i64 q.e, .int .i64 q.x] 30)
  have e2 : (w.alloc (.cells #[.int .i64 p.f, .int .i64 p.e, .int .i64 p.x] 30)).heap.size = w.heap.size + 1 := by simp
  have b1 := (Below.heap_alloc _ (.cells #[.int .i64 q.f, .int .i64 q.e, .int .i64 q.x] 30) w.heap.size (by rw [e2]; omega)).trans a1
  rw [e2] at a2
  have HB2 := hide hb2
  clear hb1 hb2 a1 e2
  unfold Qt.val
  go_enter Tryz.func85, Tryz.ntmps85
  go_upto_region 1 with fail
  generalize (w.alloc (.cells #[.int .i64 p.f, .int .i64 p.e, .int .i64 p.x] 30)).alloc (.cells #[.int .i64 q.f, .int .i64 q.e, .int .i64 q.x] 30) = w3 at *
  obtain ⟨c0, c1, c2, -, -, -⟩ := blk3 b1
  obtain ⟨d0, d1, d2, -, -, -⟩ := blk3 a2
  clear b1 a2
  by_cases h1 : p.f ≤ q.f
  · by_cases h2 : p.e ≤ q.e
    · by_cases h3 : p.x ≤ q.x
      · have hd : decide (p.le q) = true := by simp [Qt.le, h1, h2, h3]
        rw [HD.out] at hd
        subst hd
        go_wp2
        go_ret
        exact ⟨rfl, HB2.out⟩
      · have hd : decide (p.le q) = false := by simp [Qt.le, h3]
        rw [HD.out] at hd
        subst hd
        go_wp2
        go_ret
        exact ⟨rfl, HB2.out⟩
    · have hd : decide (p.le q) = false := by simp [Qt.le, h2]
      rw [HD.out] at hd
      subst hd
      go_wp2
      go_ret
      exact ⟨rfl, HB2.out⟩
  · have hd : decide (p.le q) = false := by simp [Qt.le, h1]
    rw [HD.out] at hd
    subst hd
    go_wp2
    go_ret
    exact ⟨rfl, HB2.out⟩
def Qt.bnd (q : Qt) : Qt := ⟨pt q.f, pt q.e, pt q.x⟩
set_option maxHeartbeats 1600000 in
theorem bounded_any (w : World) (q : Qt) : Calls Tryz.prog 51 #[q.val] w fun e w' => e = .returned q.bnd.val ∧ Below w.heap.size w w' := by
  have hb1 := (Below.refl w.heap.size w).alloc (Nat.le_refl _) (.cells #[.int .i64 q.f, .int .i64 q.e, .int .i64 q.x] 30)
  have hb2 := hb1.alloc hb1.size (.cells #[.int .i64 0, .int .i64 0, .int .i64 0] 30)
  have a1 := heap_alloc_new w (.cells #[.int .i64 q.f, .int .i64 q.e, .int .i64 q.x] 30)
  have a2 := heap_alloc_new (w.alloc (.cells #[.int .i64 q.f, .int .i64 q.e, .int .i64 q.x] 30)) (.cells #[.int .i64 0, .int .i64 0, .int .i64 0] 30)
  have e2 : (w.alloc (.cells #[.int .i64 q.f, .int .i64 q.e, .int .i64 q.x] 30)).heap.size = w.heap.size + 1 := by simp
  have b1 := (Below.heap_alloc _ (.cells #[.int .i64 0, .int .i64 0, .int .i64 0] 30) w.heap.size (by rw [e2]; omega)).trans a1
  rw [e2] at a2
  have HB2 := hide hb2
  clear hb1 hb2 a1 e2
  unfold Qt.val
  go_enter Tryz.func51, Tryz.ntmps51
  go_upto_region 1 with fail
  generalize (w.alloc (.cells #[.int .i64 q.f, .int .i64 q.e, .int .i64 q.x] 30)).alloc (.cells #[.int .i64 0, .int .i64 0, .int .i64 0] 30) = w3 at *
  obtain ⟨c0, c1, c2, -, -, -⟩ := blk3 b1
  obtain ⟨r0, r1, r2, f0, f1, f2⟩ := blk3 a2
  have HS := hide (fun a b c => set3 a2 a b c)
  have HB4 := hide (fun a b c => (below3 HB2.out (show w.heap.size ≤ w.heap.size + 1 by omega) a b c).drew)
  have HSo : Hid (∀ a b c, (((w3.setCell ⟨w.heap.size + 1, 0, none⟩ a).setCell ⟨w.heap.size + 1, 1, none⟩ b).setCell ⟨w.heap.size + 1, 2, none⟩ c).drew.cell? ⟨w.heap.size, 0, none⟩ = some (.int .i64 q.f) ∧ (((w3.setCell ⟨w.heap.size + 1, 0, none⟩ a).setCell ⟨w.heap.size + 1, 1, none⟩ b).setCell ⟨w.heap.size + 1, 2, none⟩ c).drew.cell? ⟨w.heap.size, 1, none⟩ = some (.int .i64 q.e) ∧ (((w3.setCell ⟨w.heap.size + 1, 0, none⟩ a).setCell ⟨w.heap.size + 1, 1, none⟩ b).setCell ⟨w.heap.size + 1, 2, none⟩ c).drew.cell? ⟨w.heap.size, 2, none⟩ = some (.int .i64 q.x)) := by
    refine hide fun a b c => ?_
    have h1 : ((((w3.setCell ⟨w.heap.size + 1, 0, none⟩ a).setCell ⟨w.heap.size + 1, 1, none⟩ b).setCell ⟨w.heap.size + 1, 2, none⟩ c).drew).heap[w.heap.size]? = some (.cells #[.int .i64 q.f, .int .i64 q.e, .int .i64 q.x] 30 (0, 0)) := by
      show (((w3.setCell ⟨w.heap.size + 1, 0, none⟩ a).setCell ⟨w.heap.size + 1, 1, none⟩ b).setCell ⟨w.heap.size + 1, 2, none⟩ c).heap[w.heap.size]? = _
      rw [heap_setCell_other _ _ _ _ (by show w.heap.size ≠ w.heap.size + 1; omega), heap_setCell_other _ _ _ _ (by show w.heap.size ≠ w.heap.size + 1; omega), heap_setCell_other _ _ _ _ (by show w.heap.size ≠ w.heap.size + 1; omega)]
      exact b1
    obtain ⟨h2, h3, h4, -⟩ := blk3 h1
    exact ⟨h2, h3, h4⟩
  have c12 : w3.drew.cell? ⟨w.heap.size, 0, none⟩ = some (.int .i64 q.f) ∧ w3.drew.cell? ⟨w.heap.size, 1, none⟩ = some (.int .i64 q.e) ∧ w3.drew.cell? ⟨w.heap.size, 2, none⟩ = some (.int .i64 q.x) := ⟨c0, c1, c2⟩
  clear b1 a2 HB2
  go_region_held (fun W => W.cell? ⟨w.heap.size, 0, none⟩ = some (.int .i64 q.f) ∧ W.cell? ⟨w.heap.size, 1, none⟩ = some (.int .i64 q.e) ∧ W.cell? ⟨w.heap.size, 2, none⟩ = some (.int .i64 q.x))
    (first | assumption | exact c12 | exact HSo.out _ _ _)
    (first | (go_at_call 83; refine (part_any _ _).mono ?_; rintro e1 w5 ⟨rfl, rfl⟩))
  go_wp2
  refine bodyPost_ret (results_row1 rfl _ _ (w.heap.size + 1) 30 #[.int .i64 (pt q.f), .int .i64 (pt q.e), .int .i64 (pt q.x)] (0, 0) _ rfl (HS.out _ _ _) Tryz.underlying30 rfl (by kernel_rfl)) rfl ?_
  exact ⟨rfl, HB4.out _ _ _⟩
end Go.Proofs.YtbocpmcodlceoaaGreat

namespace Go.Proofs.YtbocpmcodlceoaaGreat
open Go.RowKit

abbrev Qt.good (q : Qt) : Prop := pt q.f = q.f ∧ pt q.e = q.e ∧ pt q.x = q.x
def Qt.one : Qt := ⟨0, 1, 0⟩
set_option maxHeartbeats 1600000 in
theorem price_any (w : World) (q : Qt) (hq : q.ok) : Calls Tryz.prog 55 #[q.val] w fun e w' => e = .returned (q.plus Qt.one).val ∧ Below w.heap.size w w' := by
  have hb1 := (Below.refl w.heap.size w).alloc (Nat.le_refl _) (.cells #[.int .i64 q.f, .int .i64 q.e, .int .i64 q.x] 30)
  have hb2 := hb1.alloc hb1.size (.cells #[.int .i64 0, .int .i64 0, .int .i64 0] 30)
  have a1 := heap_alloc_new w (.cells #[.int .i64 q.f, .int .i64 q.e, .int .i64 q.x] 30)
  have a2 := heap_alloc_new (w.alloc (.cells #[.int .i64 q.f, .int .i64 q.e, .int .i64 q.x] 30)) (.cells #[.int .i64 0, .int .i64 0, .int .i64 0] 30)
  have e2 : (w.alloc (.cells #[.int .i64 q.f, .int .i64 q.e, .int .i64 q.x] 30)).heap.size = w.heap.size + 1 := by simp
  have b1 := (Below.heap_alloc _ (.cells #[.int .i64 0, .int .i64 0, .int .i64 0] 30) w.heap.size (by rw [e2]; omega)).trans a1
  rw [e2] at a2
  have HB2 := hide hb2
  have HP := hide (fun W => plus_any W q Qt.one hq ⟨⟨by decide, by decide⟩, ⟨by decide, by decide⟩, ⟨by decide, by decide⟩⟩)
  clear hb1 hb2 a1 e2 hq
  unfold Qt.val at *
  simp only [Qt.one, Qt.plus] at *
  go_enter Tryz.func55, Tryz.ntmps55
  go_upto_region 1 with fail
  generalize (w.alloc (.cells #[.int .i64 q.f, .int .i64 q.e, .int .i64 q.x] 30)).alloc (.cells #[.int .i64 0, .int .i64 0, .int .i64 0] 30) = w3 at *
  obtain ⟨c0, c1, c2, -, -, -⟩ := blk3 b1
  have HA2 := hide a2
  clear b1 a2
  go_wp2_with fail
  refine (HP.out _).mono ?_
  rintro e1 w4 ⟨rfl, hb4⟩
  have a4 := (hb4.block (w.heap.size + 1) (Array.getElem?_eq_some_iff.1 HA2.out).1).trans HA2.out
  have HB4 := hide (HB2.out.trans (hb4.mono HB2.out.size))
  obtain ⟨r0, r1, r2, f0, f1, f2⟩ := blk3 a4
  have HS := hide (fun a b c => set3 a4 a b c)
  clear a4 hb4 HA2 HB2 c0 c1 c2
  go_wp2
  refine bodyPost_ret (results_row1 rfl _ _ (w.heap.size + 1) 30 #[.int .i64 q.f, .int .i64 (q.e + 1), .int .i64 q.x] (0, 0) _ rfl (HS.out _ _ _) Tryz.underlying30 rfl (by kernel_rfl)) rfl ?_
  exact ⟨by simp, below3 HB4.out (by omega) _ _ _⟩
set_option maxHeartbeats 1600000 in
theorem isGood_any (w : World) (q : Qt) : Calls Tryz.prog 53 #[q.val] w fun e w' => e = .returned (.bool (decide q.good)) ∧ Below w.heap.size w w' := by
  obtain ⟨bb, hbb⟩ : ∃ bb, decide q.good = bb := ⟨_, rfl⟩
  rw [hbb]
  have HD : Hid (bb = true ↔ q.good) := hide (by rw [← hbb]; exact decide_eq_true_iff)
  clear hbb
  have hb1 := (Below.refl w.heap.size w).alloc (Nat.le_refl _) (.cells #[.int .i64 q.f, .int .i64 q.e, .int .i64 q.x] 30)
  have a1 := heap_alloc_new w (.cells #[.int .i64 q.f, .int .i64 q.e, .int .i64 q.x] 30)
  have HB1 := hide hb1
  clear hb1
  unfold Qt.val
  go_enter Tryz.func53, Tryz.ntmps53
  go_upto_region 1 with fail
  generalize w.alloc (.cells #[.int .i64 q.f, .int .i64 q.e, .int .i64 q.x] 30) = w3 at *
  obtain ⟨c0, c1, c2, -, -, -⟩ := blk3 a1
  have c12 : w3.drew.cell? ⟨w.heap.size, 0, none⟩ = some (.int .i64 q.f) ∧ w3.drew.cell? ⟨w.heap.size, 1, none⟩ = some (.int .i64 q.e) ∧ w3.drew.cell? ⟨w.heap.size, 2, none⟩ = some (.int .i64 q.x) := ⟨c0, c1, c2⟩
  have HBd : Hid (∀ W, W = w3.drew → Calls Tryz.prog 51 #[.agg #[.int .i64 q.f, .int .i64 q.e, .int .i64 q.x]] W fun x w' => x = .returned (.agg #[.int .i64 (pt q.f), .int .i64 (pt q.e), .int .i64 (pt q.x)]) ∧ Below w.heap.size w w' ∧ w'.cell? ⟨w.heap.size, 0, none⟩ = some (.int .i64 q.f) ∧ w'.cell? ⟨w.heap.size, 1, none⟩ = some (.int .i64 q.e) ∧ w'.cell? ⟨w.heap.size, 2, none⟩ = some (.int .i64 q.x)) := by
    refine hide fun W hW => ?_
    subst hW
    refine (bounded_any w3.drew q).mono ?_
    rintro x w' ⟨rfl, hb⟩
    have hbd := HB1.out.drew
    have h1 := (hb.block w.heap.size (Array.getElem?_eq_some_iff.1 a1).1).trans a1
    obtain ⟨h2, h3, h4, -⟩ := blk3 h1
    exact ⟨rfl, hbd.trans (hb.mono hbd.size), h2, h3, h4⟩
  clear a1 HB1 c0 c1 c2
  generalize h1e : pt q.f = p1 at *
  generalize h2e : pt q.e = p2 at *
  generalize h3e : pt q.x = p3 at *
  by_cases h1 : p1 = q.f
  · by_cases h2 : p2 = q.e
    · by_cases h3 : p3 = q.x
      · subst h1 h2 h3
        have hd : bb = true := HD.out.2 (by simp [Qt.good, h1e, h2e, h3e])
        subst hd
        go_region_held (fun W => W.cell? ⟨w.heap.size, 0, none⟩ = some (.int .i64 q.f) ∧ W.cell? ⟨w.heap.size, 1, none⟩ = some (.int .i64 q.e) ∧ W.cell? ⟨w.heap.size, 2, none⟩ = some (.int .i64 q.x))
          (first | assumption | exact q1 | exact c12)
          (first | (go_at_call 51; refine (HBd.out _ rfl).mono ?_; rintro e1 w5 ⟨rfl, hb5, q1⟩
                    have HB5 := hide hb5
                    clear hb5))
        go_wp2
        go_ret
        exact ⟨rfl, HB5.out⟩
      · have hx : ¬ q.x = p3 := fun h => h3 h.symm
        have hxd : (q.x == p3) = false := by simp [hx]
        subst h1 h2
        have hd : bb = false := Bool.eq_false_iff.2 (fun hh => absurd (HD.out.1 hh) (by simp [Qt.good, h3e, h3]))
        subst hd
        go_region_held (fun W => W.cell? ⟨w.heap.size, 0, none⟩ = some (.int .i64 q.f) ∧ W.cell? ⟨w.heap.size, 1, none⟩ = some (.int .i64 q.e) ∧ W.cell? ⟨w.heap.size, 2, none⟩ = some (.int .i64 q.x))
          (first | assumption | exact q1 | exact c12)
          (first | (go_at_call 51; refine (HBd.out _ rfl).mono ?_; rintro e1 w5 ⟨rfl, hb5, q1⟩
                    have HB5 := hide hb5
                    clear hb5))
        go_wp2
        go_ret
        exact ⟨rfl, HB5.out⟩
    · have hx : ¬ q.e = p2 := fun h => h2 h.symm
      have hxd : (q.e == p2) = false := by simp [hx]
      subst h1
      have hd : bb = false := Bool.eq_false_iff.2 (fun hh => absurd (HD.out.1 hh) (by simp [Qt.good, h2e, h2]))
      subst hd
      go_region_held (fun W => W.cell? ⟨w.heap.size, 0, none⟩ = some (.int .i64 q.f) ∧ W.cell? ⟨w.heap.size, 1, none⟩ = some (.int .i64 q.e) ∧ W.cell? ⟨w.heap.size, 2, none⟩ = some (.int .i64 q.x))
        (first | assumption | exact q1 | exact c12)
        (first | (go_at_call 51; refine (HBd.out _ rfl).mono ?_; rintro e1 w5 ⟨rfl, hb5, q1⟩
                  have HB5 := hide hb5
                  clear hb5))
      go_wp2
      go_ret
      exact ⟨rfl, HB5.out⟩
  · have hx : ¬ q.f = p1 := fun h => h1 h.symm
    have hxd : (q.f == p1) = false := by simp [hx]
    have hd : bb = false := Bool.eq_false_iff.2 (fun hh => absurd (HD.out.1 hh) (by simp [Qt.good, h1e, h1]))
    subst hd
    go_region_held (fun W => W.cell? ⟨w.heap.size, 0, none⟩ = some (.int .i64 q.f) ∧ W.cell? ⟨w.heap.size, 1, none⟩ = some (.int .i64 q.e) ∧ W.cell? ⟨w.heap.size, 2, none⟩ = some (.int .i64 q.x))
      (first | assumption | exact q1 | exact c12)
      (first | (go_at_call 51; refine (HBd.out _ rfl).mono ?_; rintro e1 w5 ⟨rfl, hb5, q1⟩
                have HB5 := hide hb5
                clear hb5))
    go_wp2
    go_ret
    exact ⟨rfl, HB5.out⟩
end Go.Proofs.YtbocpmcodlceoaaGreat

namespace Go.Proofs.YtbocpmcodlceoaaGreat
open Go.RowKit

/-- an environment's record: what is told of it, and its quota book -/
structure Er where
  se : Int
  pa : Int
  st : Int
  co : Int
  bi : Int
  fz : Bool
  rg : Nat → Nat
  pc : Nat
  qu : Qt
  lf : Qt
  pd : Qt
  le : Qt
def Er.cells (e : Er) : List Value :=
  [.int .i64 e.se, .int .i64 e.pa, .int .i64 e.st, .int .i64 e.co, .int .i64 e.bi, .bool e.fz, .int .u32 (e.rg 0 : Nat), .int .u32 (e.rg 1 : Nat), .int .u32 (e.rg 2 : Nat), .int .u32 (e.rg 3 : Nat), .int .u32 (e.rg 4 : Nat), .int .u32 (e.rg 5 : Nat), .int .u32 (e.rg 6 : Nat), .int .u32 (e.rg 7 : Nat), .int .u32 (e.pc : Nat),
   .int .i64 e.qu.f, .int .i64 e.qu.e, .int .i64 e.qu.x, .int .i64 e.lf.f, .int .i64 e.lf.e, .int .i64 e.lf.x, .int .i64 e.pd.f, .int .i64 e.pd.e, .int .i64 e.pd.x, .int .i64 e.le.f, .int .i64 e.le.e, .int .i64 e.le.x]
def Qt.zero : Qt := ⟨0, 0, 0⟩
def Er.new (se pa : Int) (q : Qt) : Er := ⟨se, pa, 0, 0, 0, false, fun _ => 0, 0, q, Qt.zero, Qt.zero, q⟩
/-- a record at block b -/
structure Rb (w : World) (b : Nat) (e : Er) : Prop where
  out : w.heap[b]? = some (.cells e.cells.toArray 78 (0, 0))
theorem Rb.get {w : World} {b : Nat} {e : Er} (h : Rb w b e) {j : Nat} {v : Value} (hv : e.cells[j]? = some v) : w.cell? ⟨b, j, none⟩ = some v := by
  rw [cell_of_row _ _ _ _ _ _ h.out]; simpa using hv
theorem Rb.frz {w : World} {b : Nat} {e : Er} (h : Rb w b e) (j : Nat) : w.frozen? ⟨b, j, none⟩ = false := frozen_of_row _ _ _ _ _ h.out
theorem Rb.lt {w : World} {b : Nat} {e : Er} (h : Rb w b e) : b < w.heap.size := (Array.getElem?_eq_some_iff.1 h.out).1
theorem Rb.keep {w w' : World} {b : Nat} {e : Er} (h : Rb w b e) (hk : w'.heap[b]? = w.heap[b]?) : Rb w' b e := ⟨hk.trans h.out⟩
/-- a cell of a record is set -/
theorem Rb.set {w : World} {b : Nat} {e e' : Er} (h : Rb w b e) {j : Nat} {u : Value} (he : e.cells.set j u = e'.cells) : Rb (w.setCell ⟨b, j, none⟩ u) b e' := by
  refine ⟨?_⟩
  have h1 := heap_setCell_same _ b j _ _ u h.out
  rw [h1, ← he]
  congr 2
  simp
set_option maxHeartbeats 3200000 in
theorem newRecord_any (w : World) (se pa : Int) (q : Qt) : Calls Tryz.prog 50 #[.int .i64 se, .int .i64 pa, q.val] w fun e w' => ∃ b, e = .returned (.pointer (some ⟨b, 0, none⟩)) ∧ Rb w' b (Er.new se pa q) ∧ w.heap.size ≤ b ∧ Below w.heap.size w w' := by
  have hb1 := (Below.refl w.heap.size w).alloc (Nat.le_refl _) (.cells #[.int .i64 q.f, .int .i64 q.e, .int .i64 q.x] 30)
  have a1 := heap_alloc_new w (.cells #[.int .i64 q.f, .int .i64 q.e, .int .i64 q.x] 30)
  have HB1 := hide hb1
  clear hb1
  unfold Qt.val
  go_enter Tryz.func50, Tryz.ntmps50
  go_upto_region 1 with fail
  generalize w.alloc (.cells #[.int .i64 q.f, .int .i64 q.e, .int .i64 q.x] 30) = w1 at *
  obtain ⟨c0, c1, c2, -, -, -⟩ := blk3 a1
  clear a1
  go_wp2
  go_ret
  exact ⟨w1.heap.size, rfl, ⟨heap_alloc_new w1 _⟩, HB1.out.size, HB1.out.alloc HB1.out.size _⟩
end Go.Proofs.YtbocpmcodlceoaaGreat

namespace Go.Proofs.YtbocpmcodlceoaaGreat
open Go.RowKit

/-- a table of environments -/
structure EtAt (w : World) (F : Nat → Prop) (T S : Nat) (G : Nat → Prop) (m : List (Option Nat)) (rs : List (Option Er)) (last : Int) : Prop where
  top : w.heap[T]? = some (.cells #[.pointer (some ⟨S, 0, none⟩), .int .i64 last] 68 (0, 0))
  tab : Tab KL w G S m
  len : m.length = 16
  rlen : rs.length = 16
  free : ∀ i : Nat, m[i]? = some none → rs[i]? = some none
  held : ∀ (i b : Nat), m[i]? = some (some b) → ∃ e, rs[i]? = some (some e) ∧ Rb w b e
  fT : F T
  fG : ∀ b, G b → F b ∧ b ≠ T
  own : ∀ i b : Nat, m[i]? = some (some b) → F b ∧ b ≠ T ∧ ¬ G b
  dis : ∀ i j b : Nat, m[i]? = some (some b) → m[j]? = some (some b) → i = j
  lt : ∀ b, F b → b < w.heap.size
def Et (w : World) (F : Nat → Prop) (T : Nat) (rs : List (Option Er)) (last : Int) : Prop := ∃ S G m, EtAt w F T S G m rs last
section
variable {w : World} {F : Nat → Prop} {T S : Nat} {G : Nat → Prop} {m : List (Option Nat)} {rs : List (Option Er)} {last : Int}
theorem EtAt.keep (h : EtAt w F T S G m rs last) {w' : World} (hs : w.heap.size ≤ w'.heap.size) (hk : ∀ b, F b → w'.heap[b]? = w.heap[b]?) : EtAt w' F T S G m rs last :=
  ⟨by rw [hk T h.fT]; exact h.top, h.tab.keep hs (fun b hb => hk b (h.fG b hb).1), h.len, h.rlen, h.free,
   fun i b hi => by obtain ⟨e, h1, h2⟩ := h.held i b hi; exact ⟨e, h1, h2.keep (hk b (h.own i b hi).1)⟩,
   h.fT, h.fG, h.own, h.dis, fun b hb => Nat.lt_of_lt_of_le (h.lt b hb) hs⟩
theorem Et.keep (h : Et w F T rs last) {w' : World} (hs : w.heap.size ≤ w'.heap.size) (hk : ∀ b, F b → w'.heap[b]? = w.heap[b]?) : Et w' F T rs last := by
  obtain ⟨S, G, m, h⟩ := h; exact ⟨S, G, m, h.keep hs hk⟩
theorem Et.lt (h : Et w F T rs last) : ∀ b, F b → b < w.heap.size := by obtain ⟨S, G, m, h⟩ := h; exact h.lt
theorem Et.below (h : Et w F T rs last) {w' : World} (hb : Below w.heap.size w w') : Et w' F T rs last :=
  h.keep hb.size (fun b hf => hb.block b (h.lt b hf))
theorem EtAt.below (h : EtAt w F T S G m rs last) {w' : World} (hb : Below w.heap.size w w') : EtAt w' F T S G m rs last :=
  h.keep hb.size (fun b hf => hb.block b (h.lt b hf))
theorem EtAt.cell (h : EtAt w F T S G m rs last) : w.cell? ⟨T, 0, none⟩ = some (.pointer (some ⟨S, 0, none⟩)) ∧ w.cell? ⟨T, 1, none⟩ = some (.int .i64 last) ∧ w.frozen? ⟨T, 1, none⟩ = false :=
  ⟨by rw [cell_of_row _ _ _ _ _ _ h.top]; rfl, by rw [cell_of_row _ _ _ _ _ _ h.top]; rfl, frozen_of_row _ _ _ _ _ h.top⟩
/-- a number that lives, or not -/
theorem EtAt.cases (h : EtAt w F T S G m rs last) (e : Int) : (look m e = none ∧ look rs e = none) ∨
    ∃ (k b : Nat) (r : Er), e = k ∧ m[k]? = some (some b) ∧ rs[k]? = some (some r) ∧ look m e = some b ∧ look rs e = some r ∧ Rb w b r := by
  rcases look_cases m e with ⟨h1, e1⟩ | ⟨k, rfl, hk, hm, e1⟩ | ⟨k, x, rfl, hk, hm, e1⟩
  · exact .inl ⟨e1, look_out rs e (by rw [h.rlen, ← h.len]; exact h1)⟩
  · exact .inl ⟨e1, by rw [look_nat, h.free k hm]; rfl⟩
  · obtain ⟨r, h1, h2⟩ := h.held k x hm
    exact .inr ⟨k, x, r, rfl, hm, h1, e1, by rw [look_nat, h1]; rfl, h2⟩
/-- one record is written -/
theorem EtAt.upd (h : EtAt w F T S G m rs last) {i b : Nat} (hi : m[i]? = some (some b)) {w' : World} {r' : Er} (hs : w.heap.size ≤ w'.heap.size) (hk : ∀ c, c < w.heap.size → c ≠ b → w'.heap[c]? = w.heap[c]?) (hr : Rb w' b r') : EtAt w' F T S G m (rs.set i (some r')) last := by
  have hil : i < rs.length := by rw [h.rlen, ← h.len]; exact (List.getElem?_eq_some_iff.1 hi).1
  obtain ⟨o1, o2, o3⟩ := h.own i b hi
  refine ⟨(hk T (h.lt T h.fT) (fun e => o2 e.symm)).trans h.top, h.tab.keep hs (fun c hc => hk c (h.lt c (h.fG c hc).1) (fun e => o3 (by rw [← e]; exact hc))), h.len, by simpa using h.rlen, fun j hj => ?_, fun j c hj => ?_, h.fT, h.fG, h.own, h.dis, fun c hc => Nat.lt_of_lt_of_le (h.lt c hc) hs⟩
  · rw [List.getElem?_set]
    split
    · rename_i e; subst e; rw [hi] at hj; cases hj
    · exact h.free j hj
  · by_cases e : j = i
    · subst e
      rw [hi] at hj; cases hj
      exact ⟨r', by rw [List.getElem?_set_self hil], hr⟩
    · obtain ⟨r, h1, h2⟩ := h.held j c hj
      refine ⟨r, by rw [List.getElem?_set_ne (fun e' => e e'.symm)]; exact h1, h2.keep (hk c h2.lt (fun e' => ?_))⟩
      subst e'
      exact e (h.dis j i c hj hi)
/-- a new record is laid at a free number -/
theorem EtAt.opn (h : EtAt w F T S G m rs last) {i b : Nat} (hi : m[i]? = some none) {w1 w2 : World} {r : Er} {G' : Nat → Prop} (hb : Below w.heap.size w w1) (hbn : w.heap.size ≤ b) (hr : Rb w1 b r) (ht : Tab KL w2 G' S (m.set i (some b))) (hx : Ext G w1 G' w2) :
    EtAt w2 (fun x => F x ∨ x = b ∨ G' x) T S G' (m.set i (some b)) (rs.set i (some r)) last ∧ Ext F w (fun x => F x ∨ x = b ∨ G' x) w2 := by
  have hil : i < rs.length := by rw [h.rlen, ← h.len]; exact (List.getElem?_eq_some_iff.1 hi).1
  have hg' : ∀ x, G' x → G x ∨ w1.heap.size ≤ x := hx.new
  have old : ∀ c, c < w.heap.size → ¬ G c → w2.heap[c]? = w.heap[c]? := fun c hc hg => (hx.mod.block c (Nat.lt_of_lt_of_le hc hb.size) hg).trans (hb.block c hc)
  have hbG : ¬ G b := fun hg => by have := h.lt b (h.fG b hg).1; omega
  have hbG' : ¬ G' b := fun hg => by
    rcases hg' b hg with h1 | h1
    · exact hbG h1
    · have := hr.lt; omega
  have ms : ∀ (j c : Nat), (m.set i (some b))[j]? = some (some c) → (j = i ∧ c = b) ∨ (j ≠ i ∧ m[j]? = some (some c)) := by
    intro j c hj
    rw [List.getElem?_set] at hj
    split at hj
    · rename_i e
      subst e
      split at hj
      · cases hj; exact .inl ⟨rfl, rfl⟩
      · cases hj
    · rename_i e; exact .inr ⟨fun e' => e e'.symm, hj⟩
  refine ⟨⟨?_, ht, by simpa using h.len, by simpa using h.rlen, fun j hj => ?_, fun j c hj => ?_, .inl h.fT, fun c hc => ?_, fun j c hj => ?_, fun j k c hj hk => ?_, fun c hc => ?_⟩, ⟨⟨hx.mod.os.trans hb.os, hx.mod.tape.trans hb.tape, hx.mod.output.trans hb.output, Nat.le_trans hb.size hx.mod.size, fun c hc hf => old c hc (fun hg => hf (h.fG c hg).1)⟩, fun c hc => ?_⟩⟩
  · rw [old T (h.lt T h.fT) (fun hg => (h.fG T hg).2 rfl)]; exact h.top
  · rw [List.getElem?_set] at hj ⊢
    split at hj
    · split at hj <;> cases hj
    · rename_i e; rw [if_neg e]; exact h.free j hj
  · rcases ms j c hj with ⟨rfl, rfl⟩ | ⟨hne, hj'⟩
    · exact ⟨r, by rw [List.getElem?_set_self hil], hr.keep (hx.mod.block c hr.lt hbG)⟩
    · obtain ⟨r2, h1, h2⟩ := h.held j c hj'
      exact ⟨r2, by rw [List.getElem?_set_ne (fun e => hne e.symm)]; exact h1, h2.keep (old c h2.lt (h.own j c hj').2.2)⟩
  · refine ⟨.inr (.inr hc), fun e => ?_⟩
    subst e
    rcases hg' c hc with h1 | h1
    · exact (h.fG c h1).2 rfl
    · have := h.lt c h.fT; have := hb.size; omega
  · rcases ms j c hj with ⟨rfl, rfl⟩ | ⟨hne, hj'⟩
    · exact ⟨.inr (.inl rfl), fun e => by have := h.lt T h.fT; omega, hbG'⟩
    · obtain ⟨o1, o2, o3⟩ := h.own j c hj'
      refine ⟨.inl o1, o2, fun hg => ?_⟩
      rcases hg' c hg with h1 | h1
      · exact o3 h1
      · have := h.lt c o1; have := hb.size; omega
  · rcases ms j c hj with ⟨rfl, rfl⟩ | ⟨hne, hj'⟩ <;> rcases ms k _ hk with ⟨rfl, e2⟩ | ⟨hne2, hk'⟩
    · rfl
    · have := h.lt _ (h.own k _ hk').1; omega
    · subst e2; have := h.lt _ (h.own j _ hj').1; omega
    · exact h.dis j k c hj' hk'
  · rcases hc with hc | rfl | hc
    · exact Nat.lt_of_lt_of_le (h.lt c hc) (Nat.le_trans hb.size hx.mod.size)
    · exact Nat.lt_of_lt_of_le hr.lt hx.mod.size
    · exact ht.lt c hc
  · rcases hc with hc | rfl | hc
    · exact .inl hc
    · exact .inr hbn
    · rcases hg' c hc with h1 | h1
      · exact .inl (h.fG c h1).1
      · exact .inr (Nat.le_trans hb.size h1)
end
end Go.Proofs.YtbocpmcodlceoaaGreat
