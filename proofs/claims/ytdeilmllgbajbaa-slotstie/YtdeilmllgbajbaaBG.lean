import Derived.Test.YtdeilmllgbajbaaBF
namespace Go.Proofs.Ytdeilmllgbajbaa
open Go.RowKit

set_option maxHeartbeats 3200000 in
theorem ties_f (w : World) (G : Nat → Prop) (X R : Nat) (L : List (Int × Int)) (h : Kt w G false X R L) (hL : L.length < 4398046511104) (kd tt a b : Int) : Calls Try.prog 20 #[.agg #[.bool false, .pointer (some ⟨X, 0, none⟩), .pointer none, .pointer (some ⟨R, 0, none⟩)], .agg #[.int .i64 kd, .int .i64 tt, .int .i64 a, .int .i64 b]] w fun e w' => e = .returned (.bool true) ∧ ∃ L' G', Kt w' G' false X R L' ∧ Ext G w G' w' ∧ L'.length ≤ L.length + 1 := by
  have HZ1 := hide ((h.zk.alloc (.cells #[.bool false, .pointer (some ⟨X, 0, none⟩), .pointer none, .pointer (some ⟨R, 0, none⟩)] 47)).alloc (.cells #[.int .i64 kd, .int .i64 tt, .int .i64 a, .int .i64 b] 32))
  have hsz : (w.alloc (.cells #[.bool false, .pointer (some ⟨X, 0, none⟩), .pointer none, .pointer (some ⟨R, 0, none⟩)] 47)).heap.size = w.heap.size + 1 := by simp
  rw [hsz] at HZ1
  have HTi := hide h.1
  have HKc : Hid (∀ W a' r', Zk w G W false X R a' r' [(w.heap.size + 1, .cells #[.int .i64 kd, .int .i64 tt, .int .i64 a, .int .i64 b] 32), (w.heap.size, .cells #[.bool false, .pointer (some ⟨X, 0, none⟩), .pointer none, .pointer (some ⟨R, 0, none⟩)] 47)] → (W.cell? ⟨w.heap.size, 0, none⟩ = some (.bool false) ∧ W.cell? ⟨w.heap.size, 1, none⟩ = some (.pointer (some ⟨X, 0, none⟩)) ∧ W.cell? ⟨w.heap.size, 3, none⟩ = some (.pointer (some ⟨R, 0, none⟩))) ∧ W.cell? ⟨w.heap.size + 1, 0, none⟩ = some (.int .i64 kd) ∧ W.cell? ⟨w.heap.size + 1, 2, none⟩ = some (.int .i64 a) ∧ W.cell? ⟨w.heap.size + 1, 3, none⟩ = some (.int .i64 b)) := hide (fun W a' r' hz => by
    obtain ⟨o0, o1, o2, o3⟩ := row4 (hz.mem (.head _))
    obtain ⟨s0, s1, s2, s3⟩ := row4 (hz.mem (.tail _ (.head _)))
    exact ⟨⟨s0, s1, s3⟩, o0, o2, o3⟩)
  clear h hsz
  by_cases k1 : kd = 1
  · subst k1
    obtain ⟨⟨s0, s1, s3⟩, o0, o2, o3⟩ := HKc.out _ _ _ HZ1.out
    go_enter Try.func20, Try.ntmps20
    go_wp2_with fail
    refine (HZ1.out.tieRb HTi.out hL a b).mono ?_
    rintro e w4 ⟨rfl, hz⟩
    have HZ2 := hide hz
    clear hz HZ1 s0 s1 s3 o0 o2 o3
    obtain ⟨⟨s0, s1, s3⟩, o0, o2, o3⟩ := HKc.out _ _ _ HZ2.out
    go_wp2_with fail
    have HD : Hid (Zk w G w4.drew false X R L (tieL L a b) [(w.heap.size + 1, .cells #[.int .i64 1, .int .i64 tt, .int .i64 a, .int .i64 b] 32), (w.heap.size, .cells #[.bool false, .pointer (some ⟨X, 0, none⟩), .pointer none, .pointer (some ⟨R, 0, none⟩)] 47)]) := hide (HZ2.out.below (Below.refl _ _).drew)
    go_region_held (fun W => W.cell? ⟨w.heap.size, 1, none⟩ = some (.pointer (some ⟨X, 0, none⟩)) ∧ W.cell? ⟨w.heap.size + 1, 2, none⟩ = some (.int .i64 a) ∧ W.cell? ⟨w.heap.size + 1, 3, none⟩ = some (.int .i64 b))
      (first | assumption | exact q9 | exact q8 | exact And.intro s1 (And.intro o2 o3))
      (first
        | (go_at_call 8; refine (cell_agg _ b).mono ?_; rintro e w8 ⟨rfl, hb8⟩
           have HZ8 := hide (HD.out.below hb8)
           have q8 := And.intro (HKc.out _ _ _ HZ8.out).1.2.1 (HKc.out _ _ _ HZ8.out).2.2
           clear hb8)
        | (go_at_call 7; refine (HZ8.out.tieP a b).mono ?_; rintro e w9 ⟨rfl, hz9⟩
           have HZ9 := hide hz9
           have q9 := And.intro (HKc.out _ _ _ HZ9.out).1.2.1 (HKc.out _ _ _ HZ9.out).2.2
           clear hz9))
    clear q8 q9 HD HZ2 HZ8 s0 s1 s3 o0 o2 o3
    generalize tieR L a b = x1 at *
    cases x1
    all_goals
      go_wp2
      go_ret
      obtain ⟨G1, h1, h2⟩ := HZ9.out.kt (HTi.out.tie a b)
      exact ⟨by first | rfl | simp, _, G1, h1, h2, tie_len _ _ _⟩
  · have n1 : (kd == 1) = false := by simp [k1]
    clear k1
    obtain ⟨⟨s0, s1, s3⟩, o0, o2, o3⟩ := HKc.out _ _ _ HZ1.out
    go_enter Try.func20, Try.ntmps20
    go_wp2_with fail
    refine (HZ1.out.cutRb HTi.out (Nat.le_of_lt hL) a).mono ?_
    rintro e w4 ⟨rfl, hz⟩
    have HZ2 := hide hz
    clear hz HZ1 s0 s1 s3 o0 o2 o3
    obtain ⟨⟨s0, s1, s3⟩, o0, o2, o3⟩ := HKc.out _ _ _ HZ2.out
    go_wp2_with fail
    refine (HZ2.out.cutP HTi.out a).mono ?_
    rintro e w9 ⟨rfl, hz9⟩
    have HZ9 := hide hz9
    clear hz9 HZ2 s0 s1 s3 o0 o2 o3
    generalize (atI L a).isSome = x1 at *
    cases x1
    all_goals
      go_wp2
      go_ret
      obtain ⟨G1, h1, h2⟩ := HZ9.out.kt (HTi.out.cut a)
      exact ⟨by first | rfl | simp, _, G1, h1, h2, Nat.le_succ_of_le (cut_len _ _)⟩
set_option maxHeartbeats 3200000 in
theorem ties_t (w : World) (G : Nat → Prop) (X R : Nat) (L : List (Int × Int)) (h : Kt w G true X R L) (hL : L.length < 4398046511104) (kd tt a b : Int) : Calls Try.prog 20 #[.agg #[.bool true, .pointer none, .pointer (some ⟨X, 0, none⟩), .pointer (some ⟨R, 0, none⟩)], .agg #[.int .i64 kd, .int .i64 tt, .int .i64 a, .int .i64 b]] w fun e w' => e = .returned (.bool true) ∧ ∃ L' G', Kt w' G' true X R L' ∧ Ext G w G' w' ∧ L'.length ≤ L.length + 1 := by
  have HZ1 := hide ((h.zk.alloc (.cells #[.bool true, .pointer none, .pointer (some ⟨X, 0, none⟩), .pointer (some ⟨R, 0, none⟩)] 47)).alloc (.cells #[.int .i64 kd, .int .i64 tt, .int .i64 a, .int .i64 b] 32))
  have hsz : (w.alloc (.cells #[.bool true, .pointer none, .pointer (some ⟨X, 0, none⟩), .pointer (some ⟨R, 0, none⟩)] 47)).heap.size = w.heap.size + 1 := by simp
  rw [hsz] at HZ1
  have HTi := hide h.1
  have HKc : Hid (∀ W a' r', Zk w G W true X R a' r' [(w.heap.size + 1, .cells #[.int .i64 kd, .int .i64 tt, .int .i64 a, .int .i64 b] 32), (w.heap.size, .cells #[.bool true, .pointer none, .pointer (some ⟨X, 0, none⟩), .pointer (some ⟨R, 0, none⟩)] 47)] → (W.cell? ⟨w.heap.size, 0, none⟩ = some (.bool true) ∧ W.cell? ⟨w.heap.size, 2, none⟩ = some (.pointer (some ⟨X, 0, none⟩)) ∧ W.cell? ⟨w.heap.size, 3, none⟩ = some (.pointer (some ⟨R, 0, none⟩))) ∧ W.cell? ⟨w.heap.size + 1, 0, none⟩ = some (.int .i64 kd) ∧ W.cell? ⟨w.heap.size + 1, 2, none⟩ = some (.int .i64 a) ∧ W.cell? ⟨w.heap.size + 1, 3, none⟩ = some (.int .i64 b)) := hide (fun W a' r' hz => by
    obtain ⟨o0, o1, o2, o3⟩ := row4 (hz.mem (.head _))
    obtain ⟨s0, s1, s2, s3⟩ := row4 (hz.mem (.tail _ (.head _)))
    exact ⟨⟨s0, s2, s3⟩, o0, o2, o3⟩)
  clear h hsz
  by_cases k1 : kd = 1
  · subst k1
    obtain ⟨⟨s0, s1, s3⟩, o0, o2, o3⟩ := HKc.out _ _ _ HZ1.out
    go_enter Try.func20, Try.ntmps20
    go_wp2_with fail
    refine (HZ1.out.tieRb HTi.out hL a b).mono ?_
    rintro e w4 ⟨rfl, hz⟩
    have HZ2 := hide hz
    clear hz HZ1 s0 s1 s3 o0 o2 o3
    obtain ⟨⟨s0, s1, s3⟩, o0, o2, o3⟩ := HKc.out _ _ _ HZ2.out
    go_wp2_with fail
    have HD : Hid (Zk w G w4.drew true X R L (tieL L a b) [(w.heap.size + 1, .cells #[.int .i64 1, .int .i64 tt, .int .i64 a, .int .i64 b] 32), (w.heap.size, .cells #[.bool true, .pointer none, .pointer (some ⟨X, 0, none⟩), .pointer (some ⟨R, 0, none⟩)] 47)]) := hide (HZ2.out.below (Below.refl _ _).drew)
    go_region_held (fun W => W.cell? ⟨w.heap.size, 2, none⟩ = some (.pointer (some ⟨X, 0, none⟩)) ∧ W.cell? ⟨w.heap.size + 1, 2, none⟩ = some (.int .i64 a) ∧ W.cell? ⟨w.heap.size + 1, 3, none⟩ = some (.int .i64 b))
      (first | assumption | exact q9 | exact q8 | exact And.intro s1 (And.intro o2 o3))
      (first
        | (go_at_call 8; refine (cell_agg _ a).mono ?_; rintro e w8 ⟨rfl, hb8⟩
           have HZ8 := hide (HD.out.below hb8)
           have q8 := And.intro (HKc.out _ _ _ HZ8.out).1.2.1 (HKc.out _ _ _ HZ8.out).2.2
           clear hb8)
        | (go_at_call 26; refine (HZ8.out.tieQ a b).mono ?_; rintro e w9 ⟨rfl, hz9⟩
           have HZ9 := hide hz9
           have q9 := And.intro (HKc.out _ _ _ HZ9.out).1.2.1 (HKc.out _ _ _ HZ9.out).2.2
           clear hz9))
    clear q8 q9 HD HZ2 HZ8 s0 s1 s3 o0 o2 o3
    generalize tieR L a b = x1 at *
    cases x1
    all_goals
      go_wp2
      go_ret
      obtain ⟨G1, h1, h2⟩ := HZ9.out.kt (HTi.out.tie a b)
      exact ⟨by first | rfl | simp, _, G1, h1, h2, tie_len _ _ _⟩
  · have n1 : (kd == 1) = false := by simp [k1]
    clear k1
    obtain ⟨⟨s0, s1, s3⟩, o0, o2, o3⟩ := HKc.out _ _ _ HZ1.out
    go_enter Try.func20, Try.ntmps20
    go_wp2_with fail
    refine (HZ1.out.cutRb HTi.out (Nat.le_of_lt hL) a).mono ?_
    rintro e w4 ⟨rfl, hz⟩
    have HZ2 := hide hz
    clear hz HZ1 s0 s1 s3 o0 o2 o3
    obtain ⟨⟨s0, s1, s3⟩, o0, o2, o3⟩ := HKc.out _ _ _ HZ2.out
    go_wp2_with fail
    have HD : Hid (Zk w G w4.drew true X R L (cutL L a) [(w.heap.size + 1, .cells #[.int .i64 kd, .int .i64 tt, .int .i64 a, .int .i64 b] 32), (w.heap.size, .cells #[.bool true, .pointer none, .pointer (some ⟨X, 0, none⟩), .pointer (some ⟨R, 0, none⟩)] 47)]) := hide (HZ2.out.below (Below.refl _ _).drew)
    go_region_held (fun W => W.cell? ⟨w.heap.size, 2, none⟩ = some (.pointer (some ⟨X, 0, none⟩)) ∧ W.cell? ⟨w.heap.size + 1, 2, none⟩ = some (.int .i64 a) ∧ W.cell? ⟨w.heap.size + 1, 3, none⟩ = some (.int .i64 b))
      (first | assumption | exact q9 | exact q8 | exact And.intro s1 (And.intro o2 o3))
      (first
        | (go_at_call 8; refine (cell_agg _ a).mono ?_; rintro e w8 ⟨rfl, hb8⟩
           have HZ8 := hide (HD.out.below hb8)
           have q8 := And.intro (HKc.out _ _ _ HZ8.out).1.2.1 (HKc.out _ _ _ HZ8.out).2.2
           clear hb8)
        | (go_at_call 28; refine (HZ8.out.cutQ HTi.out a).mono ?_; rintro e w9 ⟨rfl, hz9⟩
           have HZ9 := hide hz9
           have q9 := And.intro (HKc.out _ _ _ HZ9.out).1.2.1 (HKc.out _ _ _ HZ9.out).2.2
           clear hz9))
    clear q8 q9 HD HZ2 HZ8 s0 s1 s3 o0 o2 o3
    generalize (atI L a).isSome = x1 at *
    cases x1
    all_goals
      go_wp2
      go_ret
      obtain ⟨G1, h1, h2⟩ := HZ9.out.kt (HTi.out.cut a)
      exact ⟨by first | rfl | simp, _, G1, h1, h2, Nat.le_succ_of_le (cut_len _ _)⟩
end Go.Proofs.Ytdeilmllgbajbaa
