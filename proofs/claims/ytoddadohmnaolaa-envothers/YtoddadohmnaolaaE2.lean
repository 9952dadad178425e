import Derived.Test.YtoddadohmnaolaaE1
namespace Go.Proofs.Ytoddadohmnaolaa
open Go.RowKit

set_option maxHeartbeats 1600000 in
theorem less_any (w : World) (p q : Qt) (hp : p.ok) (hq : q.ok) : Calls Try.prog 63 #[p.val, q.val] w fun e w' => e = .returned (p.less q).val ∧ Below w.heap.size w w' := by
  obtain ⟨⟨h1, h2⟩, ⟨h3, h4⟩, ⟨h5, h6⟩⟩ := hp
  obtain ⟨⟨k1, k2⟩, ⟨k3, k4⟩, ⟨k5, k6⟩⟩ := hq
  have hb1 := (Below.refl w.heap.size w).alloc (Nat.le_refl _) (.cells #[.int .i64 p.f, .int .i64 p.e, .int .i64 p.x] 39)
  have hb2 := hb1.alloc hb1.size (.cells #[.int .i64 q.f, .int .i64 q.e, .int .i64 q.x] 39)
  have hb3 := hb2.alloc hb2.size (.cells #[.int .i64 0, .int .i64 0, .int .i64 0] 39)
  have a1 := heap_alloc_new w (.cells #[.int .i64 p.f, .int .i64 p.e, .int .i64 p.x] 39)
  have a2 := heap_alloc_new (w.alloc (.cells #[.int .i64 p.f, .int .i64 p.e, .int .i64 p.x] 39)) (.cells #[.int .i64 q.f, .int .i64 q.e, .int .i64 q.x] 39)
  have a3 := heap_alloc_new ((w.alloc (.cells #[.int .i64 p.f, .int .i64 p.e, .int .i64 p.x] 39)).alloc (.cells #[.int .i64 q.f, .int .i64 q.e, .int .i64 q.x] 39)) (.cells #[.int .i64 0, .int .i64 0, .int .i64 0] 39)
  have e2 : (w.alloc (.cells #[.int .i64 p.f, .int .i64 p.e, .int .i64 p.x] 39)).heap.size = w.heap.size + 1 := by simp
  have e3 : ((w.alloc (.cells #[.int .i64 p.f, .int .i64 p.e, .int .i64 p.x] 39)).alloc (.cells #[.int .i64 q.f, .int .i64 q.e, .int .i64 q.x] 39)).heap.size = w.heap.size + 2 := by simp
  have b1 := (Below.heap_alloc _ (.cells #[.int .i64 0, .int .i64 0, .int .i64 0] 39) w.heap.size (by rw [e3]; omega)).trans ((Below.heap_alloc _ (.cells #[.int .i64 q.f, .int .i64 q.e, .int .i64 q.x] 39) w.heap.size (by rw [e2]; omega)).trans a1)
  rw [e2] at a2
  have b2 := (Below.heap_alloc _ (.cells #[.int .i64 0, .int .i64 0, .int .i64 0] 39) (w.heap.size + 1) (by rw [e3]; omega)).trans a2
  rw [e3] at a3
  have HB3 := hide hb3
  clear hb1 hb2 hb3 a1 a2 e2 e3
  unfold Qt.val
  go_enter Try.func63, Try.ntmps63
  go_upto_region 1 with fail
  generalize ((w.alloc (.cells #[.int .i64 p.f, .int .i64 p.e, .int .i64 p.x] 39)).alloc (.cells #[.int .i64 q.f, .int .i64 q.e, .int .i64 q.x] 39)).alloc (.cells #[.int .i64 0, .int .i64 0, .int .i64 0] 39) = w3 at *
  obtain ⟨c0, c1, c2, -, -, -⟩ := blk3 b1
  obtain ⟨d0, d1, d2, -, -, -⟩ := blk3 b2
  obtain ⟨r0, r1, r2, f0, f1, f2⟩ := blk3 a3
  have HS := hide (fun a b c => set3 a3 a b c)
  clear b1 b2 a3
  go_wp2
  refine bodyPost_ret (results_row1 rfl _ _ (w.heap.size + 2) 39 #[.int .i64 (p.f - q.f), .int .i64 (p.e - q.e), .int .i64 (p.x - q.x)] (0, 0) _ rfl (HS.out _ _ _) Try.underlying39 rfl (by kernel_rfl)) rfl ?_
  exact ⟨rfl, below3 HB3.out (by omega) _ _ _⟩
abbrev Qt.le (p q : Qt) : Prop := p.f ≤ q.f ∧ p.e ≤ q.e ∧ p.x ≤ q.x
set_option maxHeartbeats 1600000 in
theorem fits_any (w : World) (p q : Qt) : Calls Try.prog 60 #[p.val, q.val] w fun e w' => e = .returned (.bool (decide (p.le q))) ∧ Below w.heap.size w w' := by
  obtain ⟨bb, hbb⟩ : ∃ bb, decide (p.le q) = bb := ⟨_, rfl⟩
  rw [hbb]
  have HD := hide hbb
  clear hbb
  have hb1 := (Below.refl w.heap.size w).alloc (Nat.le_refl _) (.cells #[.int .i64 p.f, .int .i64 p.e, .int .i64 p.x] 39)
  have hb2 := hb1.alloc hb1.size (.cells #[.int .i64 q.f, .int .i64 q.e, .int .i64 q.x] 39)
  have a1 := heap_alloc_new w (.cells #[.int .i64 p.f, .int .i64 p.e, .int .i64 p.x] 39)
  have a2 := heap_alloc_new (w.alloc (.cells #[.int .i64 p.f, .int .i64 p.e, .int .i64 p.x] 39)) (.cells #[.int .i64 q.f, .int .i64 q.e, .int .i64 q.x] 39)
  have e2 : (w.alloc (.cells #[.int .i64 p.f, .int .i64 p.e, .int .i64 p.x] 39)).heap.size = w.heap.size + 1 := by simp
  have b1 := (Below.heap_alloc _ (.cells #[.int .i64 q.f, .int .i64 q.e, .int .i64 q.x] 39) w.heap.size (by rw [e2]; omega)).trans a1
  rw [e2] at a2
  have HB2 := hide hb2
  clear hb1 hb2 a1 e2
  unfold Qt.val
  go_enter Try.func60, Try.ntmps60
  go_upto_region 1 with fail
  generalize (w.alloc (.cells #[.int .i64 p.f, .int .i64 p.e, .int .i64 p.x] 39)).alloc (.cells #[.int .i64 q.f, .int .i64 q.e, .int .i64 q.x] 39) = w3 at *
  obtain ⟨c0, c1, c2, -, -, -⟩ := blk3 b1
  obtain ⟨d0, d1, d2, -, -, -⟩ := blk3 a2
  clear b1 a2
  by_cases h1 : p.f ≤ q.f
  · by_cases h2 : p.e ≤ q.e
    · by_cases h3 : p.x ≤ q.x
      · have hd : decide (p.le q) = true := by simp [Qt.le, h1, h2, h3]
        rw [HD.out] at hd
        subst hd
        go_wp2
        go_ret
        exact ⟨rfl, HB2.out⟩
      · have hd : decide (p.le q) = false := by simp [Qt.le, h3]
        rw [HD.out] at hd
        subst hd
        go_wp2
        go_ret
        exact ⟨rfl, HB2.out⟩
    · have hd : decide (p.le q) = false := by simp [Qt.le, h2]
      rw [HD.out] at hd
      subst hd
      go_wp2
      go_ret
      exact ⟨rfl, HB2.out⟩
  · have hd : decide (p.le q) = false := by simp [Qt.le, h1]
    rw [HD.out] at hd
    subst hd
    go_wp2
    go_ret
    exact ⟨rfl, HB2.out⟩
def Qt.bnd (q : Qt) : Qt := ⟨pt q.f, pt q.e, pt q.x⟩
set_option maxHeartbeats 1600000 in
theorem bounded_any (w : World) (q : Qt) : Calls Try.prog 56 #[q.val] w fun e w' => e = .returned q.bnd.val ∧ Below w.heap.size w w' := by
  have hb1 := (Below.refl w.heap.size w).alloc (Nat.le_refl _) (.cells #[.int .i64 q.f, .int .i64 q.e, .int .i64 q.x] 39)
  have hb2 := hb1.alloc hb1.size (.cells #[.int .i64 0, .int .i64 0, .int .i64 0] 39)
  have a1 := heap_alloc_new w (.cells #[.int .i64 q.f, .int .i64 q.e, .int .i64 q.x] 39)
  have a2 := heap_alloc_new (w.alloc (.cells #[.int .i64 q.f, .int .i64 q.e, .int .i64 q.x] 39)) (.cells #[.int .i64 0, .int .i64 0, .int .i64 0] 39)
  have e2 : (w.alloc (.cells #[.int .i64 q.f, .int .i64 q.e, .int .i64 q.x] 39)).heap.size = w.heap.size + 1 := by simp
  have b1 := (Below.heap_alloc _ (.cells #[.int .i64 0, .int .i64 0, .int .i64 0] 39) w.heap.size (by rw [e2]; omega)).trans a1
  rw [e2] at a2
  have HB2 := hide hb2
  clear hb1 hb2 a1 e2
  unfold Qt.val
  go_enter Try.func56, Try.ntmps56
  go_upto_region 1 with fail
  generalize (w.alloc (.cells #[.int .i64 q.f, .int .i64 q.e, .int .i64 q.x] 39)).alloc (.cells #[.int .i64 0, .int .i64 0, .int .i64 0] 39) = w3 at *
  obtain ⟨c0, c1, c2, -, -, -⟩ := blk3 b1
  obtain ⟨r0, r1, r2, f0, f1, f2⟩ := blk3 a2
  have HS := hide (fun a b c => set3 a2 a b c)
  have HB4 := hide (fun a b c => (below3 HB2.out (show w.heap.size ≤ w.heap.size + 1 by omega) a b c).drew)
  have HSo : Hid (∀ a b c, (((w3.setCell ⟨w.heap.size + 1, 0, none⟩ a).setCell ⟨w.heap.size + 1, 1, none⟩ b).setCell ⟨w.heap.size + 1, 2, none⟩ c).drew.cell? ⟨w.heap.size, 0, none⟩ = some (.int .i64 q.f) ∧ (((w3.setCell ⟨w.heap.size + 1, 0, none⟩ a).setCell ⟨w.heap.size + 1, 1, none⟩ b).setCell ⟨w.heap.size + 1, 2, none⟩ c).drew.cell? ⟨w.heap.size, 1, none⟩ = some (.int .i64 q.e) ∧ (((w3.setCell ⟨w.heap.size + 1, 0, none⟩ a).setCell ⟨w.heap.size + 1, 1, none⟩ b).setCell ⟨w.heap.size + 1, 2, none⟩ c).drew.cell? ⟨w.heap.size, 2, none⟩ = some (.int .i64 q.x)) := by
    refine hide fun a b c => ?_
    have h1 : ((((w3.setCell ⟨w.heap.size + 1, 0, none⟩ a).setCell ⟨w.heap.size + 1, 1, none⟩ b).setCell ⟨w.heap.size + 1, 2, none⟩ c).drew).heap[w.heap.size]? = some (.cells #[.int .i64 q.f, .int .i64 q.e, .int .i64 q.x] 39 (0, 0)) := by
      show (((w3.setCell ⟨w.heap.size + 1, 0, none⟩ a).setCell ⟨w.heap.size + 1, 1, none⟩ b).setCell ⟨w.heap.size + 1, 2, none⟩ c).heap[w.heap.size]? = _
      rw [heap_setCell_other _ _ _ _ (by show w.heap.size ≠ w.heap.size + 1; omega), heap_setCell_other _ _ _ _ (by show w.heap.size ≠ w.heap.size + 1; omega), heap_setCell_other _ _ _ _ (by show w.heap.size ≠ w.heap.size + 1; omega)]
      exact b1
    obtain ⟨h2, h3, h4, -⟩ := blk3 h1
    exact ⟨h2, h3, h4⟩
  have c12 : w3.drew.cell? ⟨w.heap.size, 0, none⟩ = some (.int .i64 q.f) ∧ w3.drew.cell? ⟨w.heap.size, 1, none⟩ = some (.int .i64 q.e) ∧ w3.drew.cell? ⟨w.heap.size, 2, none⟩ = some (.int .i64 q.x) := ⟨c0, c1, c2⟩
  clear b1 a2 HB2
  go_region_held (fun W => W.cell? ⟨w.heap.size, 0, none⟩ = some (.int .i64 q.f) ∧ W.cell? ⟨w.heap.size, 1, none⟩ = some (.int .i64 q.e) ∧ W.cell? ⟨w.heap.size, 2, none⟩ = some (.int .i64 q.x))
    (first | assumption | exact c12 | exact HSo.out _ _ _)
    (first | (go_at_call 67; refine (part_any _ _).mono ?_; rintro e1 w5 ⟨rfl, rfl⟩))
  go_wp2
  refine bodyPost_ret (results_row1 rfl _ _ (w.heap.size + 1) 39 #[.int .i64 (pt q.f), .int .i64 (pt q.e), .int .i64 (pt q.x)] (0, 0) _ rfl (HS.out _ _ _) Try.underlying39 rfl (by kernel_rfl)) rfl ?_
  exact ⟨rfl, HB4.out _ _ _⟩
end Go.Proofs.Ytoddadohmnaolaa
