import Derived.Test.YtoddadohmnaolaaE2
namespace Go.Proofs.Ytoddadohmnaolaa
open Go.RowKit

abbrev Qt.good (q : Qt) : Prop := pt q.f = q.f ∧ pt q.e = q.e ∧ pt q.x = q.x
def Qt.one : Qt := ⟨0, 1, 0⟩
set_option maxHeartbeats 1600000 in
theorem price_any (w : World) (q : Qt) (hq : q.ok) : Calls Try.prog 44 #[q.val] w fun e w' => e = .returned (q.plus Qt.one).val ∧ Below w.heap.size w w' := by
  have hb1 := (Below.refl w.heap.size w).alloc (Nat.le_refl _) (.cells #[.int .i64 q.f, .int .i64 q.e, .int .i64 q.x] 39)
  have hb2 := hb1.alloc hb1.size (.cells #[.int .i64 0, .int .i64 0, .int .i64 0] 39)
  have a1 := heap_alloc_new w (.cells #[.int .i64 q.f, .int .i64 q.e, .int .i64 q.x] 39)
  have a2 := heap_alloc_new (w.alloc (.cells #[.int .i64 q.f, .int .i64 q.e, .int .i64 q.x] 39)) (.cells #[.int .i64 0, .int .i64 0, .int .i64 0] 39)
  have e2 : (w.alloc (.cells #[.int .i64 q.f, .int .i64 q.e, .int .i64 q.x] 39)).heap.size = w.heap.size + 1 := by simp
  have b1 := (Below.heap_alloc _ (.cells #[.int .i64 0, .int .i64 0, .int .i64 0] 39) w.heap.size (by rw [e2]; omega)).trans a1
  rw [e2] at a2
  have HB2 := hide hb2
  have HP := hide (fun W => plus_any W q Qt.one hq ⟨⟨by decide, by decide⟩, ⟨by decide, by decide⟩, ⟨by decide, by decide⟩⟩)
  clear hb1 hb2 a1 e2 hq
  unfold Qt.val at *
  simp only [Qt.one, Qt.plus] at *
  go_enter Try.func44, Try.ntmps44
  go_upto_region 1 with fail
  generalize (w.alloc (.cells #[.int .i64 q.f, .int .i64 q.e, .int .i64 q.x] 39)).alloc (.cells #[.int .i64 0, .int .i64 0, .int .i64 0] 39) = w3 at *
  obtain ⟨c0, c1, c2, -, -, -⟩ := blk3 b1
  have HA2 := hide a2
  clear b1 a2
  go_wp2_with fail
  refine (HP.out _).mono ?_
  rintro e1 w4 ⟨rfl, hb4⟩
  have a4 := (hb4.block (w.heap.size + 1) (Array.getElem?_eq_some_iff.1 HA2.out).1).trans HA2.out
  have HB4 := hide (HB2.out.trans (hb4.mono HB2.out.size))
  obtain ⟨r0, r1, r2, f0, f1, f2⟩ := blk3 a4
  have HS := hide (fun a b c => set3 a4 a b c)
  clear a4 hb4 HA2 HB2 c0 c1 c2
  go_wp2
  refine bodyPost_ret (results_row1 rfl _ _ (w.heap.size + 1) 39 #[.int .i64 q.f, .int .i64 (q.e + 1), .int .i64 q.x] (0, 0) _ rfl (HS.out _ _ _) Try.underlying39 rfl (by kernel_rfl)) rfl ?_
  exact ⟨by simp, below3 HB4.out (by omega) _ _ _⟩
set_option maxHeartbeats 1600000 in
theorem isGood_any (w : World) (q : Qt) : Calls Try.prog 42 #[q.val] w fun e w' => e = .returned (.bool (decide q.good)) ∧ Below w.heap.size w w' := by
  obtain ⟨bb, hbb⟩ : ∃ bb, decide q.good = bb := ⟨_, rfl⟩
  rw [hbb]
  have HD : Hid (bb = true ↔ q.good) := hide (by rw [← hbb]; exact decide_eq_true_iff)
  clear hbb
  have hb1 := (Below.refl w.heap.size w).alloc (Nat.le_refl _) (.cells #[.int .i64 q.f, .int .i64 q.e, .int .i64 q.x] 39)
  have a1 := heap_alloc_new w (.cells #[.int .i64 q.f, .int .i64 q.e, .int .i64 q.x] 39)
  have HB1 := hide hb1
  clear hb1
  unfold Qt.val
  go_enter Try.func42, Try.ntmps42
  go_upto_region 1 with fail
  generalize w.alloc (.cells #[.int .i64 q.f, .int .i64 q.e, .int .i64 q.x] 39) = w3 at *
  obtain ⟨c0, c1, c2, -, -, -⟩ := blk3 a1
  have c12 : w3.drew.cell? ⟨w.heap.size, 0, none⟩ = some (.int .i64 q.f) ∧ w3.drew.cell? ⟨w.heap.size, 1, none⟩ = some (.int .i64 q.e) ∧ w3.drew.cell? ⟨w.heap.size, 2, none⟩ = some (.int .i64 q.x) := ⟨c0, c1, c2⟩
  have HBd : Hid (∀ W, W = w3.drew → Calls Try.prog 56 #[.agg #[.int .i64 q.f, .int .i64 q.e, .int .i64 q.x]] W fun x w' => x = .returned (.agg #[.int .i64 (pt q.f), .int .i64 (pt q.e), .int .i64 (pt q.x)]) ∧ Below w.heap.size w w' ∧ w'.cell? ⟨w.heap.size, 0, none⟩ = some (.int .i64 q.f) ∧ w'.cell? ⟨w.heap.size, 1, none⟩ = some (.int .i64 q.e) ∧ w'.cell? ⟨w.heap.size, 2, none⟩ = some (.int .i64 q.x)) := by
    refine hide fun W hW => ?_
    subst hW
    refine (bounded_any w3.drew q).mono ?_
    rintro x w' ⟨rfl, hb⟩
    have hbd := HB1.out.drew
    have h1 := (hb.block w.heap.size (Array.getElem?_eq_some_iff.1 a1).1).trans a1
    obtain ⟨h2, h3, h4, -⟩ := blk3 h1
    exact ⟨rfl, hbd.trans (hb.mono hbd.size), h2, h3, h4⟩
  clear a1 HB1 c0 c1 c2
  generalize h1e : pt q.f = p1 at *
  generalize h2e : pt q.e = p2 at *
  generalize h3e : pt q.x = p3 at *
  by_cases h1 : p1 = q.f
  · by_cases h2 : p2 = q.e
    · by_cases h3 : p3 = q.x
      · subst h1 h2 h3
        have hd : bb = true := HD.out.2 (by simp [Qt.good, h1e, h2e, h3e])
        subst hd
        go_region_held (fun W => W.cell? ⟨w.heap.size, 0, none⟩ = some (.int .i64 q.f) ∧ W.cell? ⟨w.heap.size, 1, none⟩ = some (.int .i64 q.e) ∧ W.cell? ⟨w.heap.size, 2, none⟩ = some (.int .i64 q.x))
          (first | assumption | exact q1 | exact c12)
          (first | (go_at_call 56; refine (HBd.out _ rfl).mono ?_; rintro e1 w5 ⟨rfl, hb5, q1⟩
                    have HB5 := hide hb5
                    clear hb5))
        go_wp2
        go_ret
        exact ⟨rfl, HB5.out⟩
      · have hx : ¬ q.x = p3 := fun h => h3 h.symm
        have hxd : (q.x == p3) = false := by simp [hx]
        subst h1 h2
        have hd : bb = false := Bool.eq_false_iff.2 (fun hh => absurd (HD.out.1 hh) (by simp [Qt.good, h3e, h3]))
        subst hd
        go_region_held (fun W => W.cell? ⟨w.heap.size, 0, none⟩ = some (.int .i64 q.f) ∧ W.cell? ⟨w.heap.size, 1, none⟩ = some (.int .i64 q.e) ∧ W.cell? ⟨w.heap.size, 2, none⟩ = some (.int .i64 q.x))
          (first | assumption | exact q1 | exact c12)
          (first | (go_at_call 56; refine (HBd.out _ rfl).mono ?_; rintro e1 w5 ⟨rfl, hb5, q1⟩
                    have HB5 := hide hb5
                    clear hb5))
        go_wp2
        go_ret
        exact ⟨rfl, HB5.out⟩
    · have hx : ¬ q.e = p2 := fun h => h2 h.symm
      have hxd : (q.e == p2) = false := by simp [hx]
      subst h1
      have hd : bb = false := Bool.eq_false_iff.2 (fun hh => absurd (HD.out.1 hh) (by simp [Qt.good, h2e, h2]))
      subst hd
      go_region_held (fun W => W.cell? ⟨w.heap.size, 0, none⟩ = some (.int .i64 q.f) ∧ W.cell? ⟨w.heap.size, 1, none⟩ = some (.int .i64 q.e) ∧ W.cell? ⟨w.heap.size, 2, none⟩ = some (.int .i64 q.x))
        (first | assumption | exact q1 | exact c12)
        (first | (go_at_call 56; refine (HBd.out _ rfl).mono ?_; rintro e1 w5 ⟨rfl, hb5, q1⟩
                  have HB5 := hide hb5
                  clear hb5))
      go_wp2
      go_ret
      exact ⟨rfl, HB5.out⟩
  · have hx : ¬ q.f = p1 := fun h => h1 h.symm
    have hxd : (q.f == p1) = false := by simp [hx]
    have hd : bb = false := Bool.eq_false_iff.2 (fun hh => absurd (HD.out.1 hh) (by simp [Qt.good, h1e, h1]))
    subst hd
    go_region_held (fun W => W.cell? ⟨w.heap.size, 0, none⟩ = some (.int .i64 q.f) ∧ W.cell? ⟨w.heap.size, 1, none⟩ = some (.int .i64 q.e) ∧ W.cell? ⟨w.heap.size, 2, none⟩ = some (.int .i64 q.x))
      (first | assumption | exact q1 | exact c12)
      (first | (go_at_call 56; refine (HBd.out _ rfl).mono ?_; rintro e1 w5 ⟨rfl, hb5, q1⟩
                have HB5 := hide hb5
                clear hb5))
    go_wp2
    go_ret
    exact ⟨rfl, HB5.out⟩
end Go.Proofs.Ytoddadohmnaolaa
