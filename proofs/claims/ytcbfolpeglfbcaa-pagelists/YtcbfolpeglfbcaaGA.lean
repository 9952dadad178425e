import Derived.Test.YtcbfolpeglfbcaaG9
namespace Go.Proofs.Ytcbfolpeglfbcaa
open Go.RowKit
section
variable (w : World) (B : Nat) (m : Nat → E)
set_option maxRecDepth 100000 in
set_option maxHeartbeats 1600000 in
theorem found_no (a : Nat) (ha : 512 ≤ a) (ha2 : a < 4294967296) :
    Calls Try.prog 15 #[.pointer (some ⟨B, 0, none⟩), .agg (sc m).toArray, .int .u32 (a : Int)] w fun e w' => e = .returned (.bool true) ∧ Below w.heap.size w w' := by
  have hS := Sn.new w m
  have hB0 : Below w.heap.size w (w.alloc (.cells (sc m).toArray 35)) := (Below.refl _ _).alloc (Nat.le_refl _) _
  go_enter Try.func15, Try.ntmps15
  go_upto_region 1 with fail
  generalize w.alloc (.cells (sc m).toArray 35) = w0 at *
  go_wp2_with fail
  refine (trans_no w0 B a false ha ha2).mono ?_
  rintro e w1 ⟨rfl, hb1⟩
  go_wp2_with fail
  refine (trans_no w1 B a true ha ha2).mono ?_
  rintro e w2 ⟨rfl, hb2⟩
  have HB := hide (hB0.trans ((hb1.trans (hb2.mono hb1.size)).mono hB0.size))
  clear hS hB0 hb1 hb2
  go_wp2
  go_ret
  exact ⟨rfl, HB.out⟩
set_option maxRecDepth 100000 in
set_option maxHeartbeats 1600000 in
theorem found_un (a : Nat) (h : Tb w B m) (ha : a < 512) (hm : m (a / 32) = none) :
    Calls Try.prog 15 #[.pointer (some ⟨B, 0, none⟩), .agg (sc m).toArray, .int .u32 (a : Int)] w fun e w' => e = .returned (.bool true) ∧ Below w.heap.size w w' := by
  have hS := Sn.new w m
  have hB0 : Below w.heap.size w (w.alloc (.cells (sc m).toArray 35)) := (Below.refl _ _).alloc (Nat.le_refl _) _
  go_enter Try.func15, Try.ntmps15
  go_upto_region 1 with fail
  generalize w.alloc (.cells (sc m).toArray 35) = w0 at *
  have h0 := h.below hB0
  go_wp2_with fail
  refine (trans_un w0 B m a false h0 ha hm).mono ?_
  rintro e w1 ⟨rfl, hb1⟩
  have h1 := h0.below hb1
  go_wp2_with fail
  refine (trans_un w1 B m a true h1 ha hm).mono ?_
  rintro e w2 ⟨rfl, hb2⟩
  have hS2 := hS.below (hb1.trans (hb2.mono hb1.size))
  have hB2 := hB0.trans ((hb1.trans (hb2.mono hb1.size)).mono hB0.size)
  have h512 : decide ((512 : Int) ≤ (a : Int)) = false := by simp; omega
  obtain ⟨q, hq⟩ : ∃ q, a / 32 = q := ⟨_, rfl⟩
  rw [hq] at hm
  have hql : q < 16 := by omega
  have hqi : (a : Int) / 32 = (q : Int) := by omega
  have hw1 : IntKind.i64.wrap (q : Int) = (q : Int) := by rw [IntKind.wrap_i64]; omega
  have hwa : IntKind.i64.wrap (a : Int) = (a : Int) := by rw [IntKind.wrap_i64]; omega
  have htd : (a : Int).tdiv 32 = (q : Int) := by rw [Int.tdiv_eq_ediv_of_nonneg (by omega)]; exact hqi
  have hw3 : IntKind.i64.wrap ((a : Int).tdiv 32) = (q : Int) := by rw [htd]; exact hw1
  obtain ⟨c0, c1, c2⟩ := hS2.c hql
  rw [hm] at c0 c1 c2
  have e0 : w2.cell? ⟨w.heap.size, q * 3, none⟩ = some (.bool false) := c0
  have e1 : w2.cell? ⟨w.heap.size, q * 3 + 1, none⟩ = some (.int .i64 0) := c1
  have e2 : w2.cell? ⟨w.heap.size, q * 3 + 2, none⟩ = some (.bool false) := c2
  clear c0 c1 c2
  have HB := hide (hB2.alloc hB2.size (.cells #[.bool false, .int .i64 0, .bool false] 33))
  clear hS hB0 hb1 hb2 h h0 h1 hS2 hB2 hm hq
  go_wp2
  go_ret
  exact ⟨rfl, HB.out⟩
set_option maxRecDepth 100000 in
set_option maxHeartbeats 1600000 in
theorem found_ro (a s : Nat) (h : Tb w B m) (ha : a < 512) (hm : m (a / 32) = some (s, false)) :
    Calls Try.prog 15 #[.pointer (some ⟨B, 0, none⟩), .agg (sc m).toArray, .int .u32 (a : Int)] w fun e w' => e = .returned (.bool true) ∧ Below w.heap.size w w' := by
  have hS := Sn.new w m
  have hB0 : Below w.heap.size w (w.alloc (.cells (sc m).toArray 35)) := (Below.refl _ _).alloc (Nat.le_refl _) _
  go_enter Try.func15, Try.ntmps15
  go_upto_region 1 with fail
  generalize w.alloc (.cells (sc m).toArray 35) = w0 at *
  have h0 := h.below hB0
  go_wp2_with fail
  refine (trans_ok w0 B m a false h0 ha s false hm (fun e => by cases e)).mono ?_
  rintro e w1 ⟨rfl, hb1⟩
  have h1 := h0.below hb1
  go_wp2_with fail
  refine (trans_ro w1 B m a h1 ha s hm).mono ?_
  rintro e w2 ⟨rfl, hb2⟩
  have hS2 := hS.below (hb1.trans (hb2.mono hb1.size))
  have hB2 := hB0.trans ((hb1.trans (hb2.mono hb1.size)).mono hB0.size)
  have h512 : decide ((512 : Int) ≤ (a : Int)) = false := by simp; omega
  obtain ⟨q, hq⟩ : ∃ q, a / 32 = q := ⟨_, rfl⟩
  rw [hq] at hm
  have hql : q < 16 := by omega
  have hqi : (a : Int) / 32 = (q : Int) := by omega
  have hw1 : IntKind.i64.wrap (q : Int) = (q : Int) := by rw [IntKind.wrap_i64]; omega
  have hwa : IntKind.i64.wrap (a : Int) = (a : Int) := by rw [IntKind.wrap_i64]; omega
  have htd : (a : Int).tdiv 32 = (q : Int) := by rw [Int.tdiv_eq_ediv_of_nonneg (by omega)]; exact hqi
  have hw3 : IntKind.i64.wrap ((a : Int).tdiv 32) = (q : Int) := by rw [htd]; exact hw1
  obtain ⟨c0, c1, c2⟩ := hS2.c hql
  rw [hm] at c0 c1 c2
  have e0 : w2.cell? ⟨w.heap.size, q * 3, none⟩ = some (.bool true) := c0
  have e1 : w2.cell? ⟨w.heap.size, q * 3 + 1, none⟩ = some (.int .i64 (s : Int)) := c1
  have e2 : w2.cell? ⟨w.heap.size, q * 3 + 2, none⟩ = some (.bool false) := c2
  clear c0 c1 c2
  have HB := hide (hB2.alloc hB2.size (.cells #[.bool true, .int .i64 (s : Int), .bool false] 33))
  obtain ⟨r, hr⟩ : ∃ r, a % 32 = r := ⟨_, rfl⟩
  have hri : (a : Int) % 32 = (r : Int) := by omega
  have hrw : IntKind.i64.wrap (r : Int) = (r : Int) := by rw [IntKind.wrap_i64]; omega
  have htm : (a : Int).tmod 32 = (r : Int) := by rw [Int.tmod_eq_emod_of_nonneg (by omega)]; exact hri
  clear hr
  clear hS hB0 hb1 hb2 h h0 h1 hS2 hB2 hm hq
  go_wp2
  go_ret
  exact ⟨rfl, HB.out⟩
set_option maxRecDepth 100000 in
set_option maxHeartbeats 1600000 in
theorem found_ok (a s : Nat) (h : Tb w B m) (ha : a < 512) (hm : m (a / 32) = some (s, true)) :
    Calls Try.prog 15 #[.pointer (some ⟨B, 0, none⟩), .agg (sc m).toArray, .int .u32 (a : Int)] w fun e w' => e = .returned (.bool true) ∧ Below w.heap.size w w' := by
  have hS := Sn.new w m
  have hB0 : Below w.heap.size w (w.alloc (.cells (sc m).toArray 35)) := (Below.refl _ _).alloc (Nat.le_refl _) _
  go_enter Try.func15, Try.ntmps15
  go_upto_region 1 with fail
  generalize w.alloc (.cells (sc m).toArray 35) = w0 at *
  have h0 := h.below hB0
  go_wp2_with fail
  refine (trans_ok w0 B m a false h0 ha s true hm (fun e => by cases e)).mono ?_
  rintro e w1 ⟨rfl, hb1⟩
  have h1 := h0.below hb1
  go_wp2_with fail
  refine (trans_ok w1 B m a true h1 ha s true hm (fun _ => rfl)).mono ?_
  rintro e w2 ⟨rfl, hb2⟩
  have hS2 := hS.below (hb1.trans (hb2.mono hb1.size))
  have hB2 := hB0.trans ((hb1.trans (hb2.mono hb1.size)).mono hB0.size)
  have h512 : decide ((512 : Int) ≤ (a : Int)) = false := by simp; omega
  obtain ⟨q, hq⟩ : ∃ q, a / 32 = q := ⟨_, rfl⟩
  rw [hq] at hm
  have hql : q < 16 := by omega
  have hqi : (a : Int) / 32 = (q : Int) := by omega
  have hw1 : IntKind.i64.wrap (q : Int) = (q : Int) := by rw [IntKind.wrap_i64]; omega
  have hwa : IntKind.i64.wrap (a : Int) = (a : Int) := by rw [IntKind.wrap_i64]; omega
  have htd : (a : Int).tdiv 32 = (q : Int) := by rw [Int.tdiv_eq_ediv_of_nonneg (by omega)]; exact hqi
  have hw3 : IntKind.i64.wrap ((a : Int).tdiv 32) = (q : Int) := by rw [htd]; exact hw1
  obtain ⟨c0, c1, c2⟩ := hS2.c hql
  rw [hm] at c0 c1 c2
  have e0 : w2.cell? ⟨w.heap.size, q * 3, none⟩ = some (.bool true) := c0
  have e1 : w2.cell? ⟨w.heap.size, q * 3 + 1, none⟩ = some (.int .i64 (s : Int)) := c1
  have e2 : w2.cell? ⟨w.heap.size, q * 3 + 2, none⟩ = some (.bool true) := c2
  clear c0 c1 c2
  have HB := hide (hB2.alloc hB2.size (.cells #[.bool true, .int .i64 (s : Int), .bool true] 33))
  obtain ⟨r, hr⟩ : ∃ r, a % 32 = r := ⟨_, rfl⟩
  have hri : (a : Int) % 32 = (r : Int) := by omega
  have hrw : IntKind.i64.wrap (r : Int) = (r : Int) := by rw [IntKind.wrap_i64]; omega
  have htm : (a : Int).tmod 32 = (r : Int) := by rw [Int.tmod_eq_emod_of_nonneg (by omega)]; exact hri
  clear hr
  clear hS hB0 hb1 hb2 h h0 h1 hS2 hB2 hm hq
  go_wp2
  go_ret
  exact ⟨rfl, HB.out⟩
theorem found_any (a : Nat) (h : Tb w B m) (ha : a < 4294967296) :
    Calls Try.prog 15 #[.pointer (some ⟨B, 0, none⟩), .agg (sc m).toArray, .int .u32 (a : Int)] w fun e w' => e = .returned (.bool true) ∧ Below w.heap.size w w' := by
  by_cases h5 : 512 ≤ a
  · exact found_no w B m a h5 ha
  · rcases hm : m (a / 32) with _ | ⟨s, _ | _⟩
    · exact found_un w B m a h (by omega) hm
    · exact found_ro w B m a s h (by omega) hm
    · exact found_ok w B m a s h (by omega) hm
end
end Go.Proofs.Ytcbfolpeglfbcaa
