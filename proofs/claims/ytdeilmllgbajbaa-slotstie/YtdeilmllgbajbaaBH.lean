import Derived.Test.YtdeilmllgbajbaaBG
namespace Go.Proofs.Ytdeilmllgbajbaa
open Go.RowKit

set_option maxHeartbeats 3200000 in
theorem looks_f (w : World) (G : Nat → Prop) (X R : Nat) (L : List (Int × Int)) (h : Kt w G false X R L) (hL : L.length < 4398046511104) (kd tt a b : Int) : Calls Try.prog 21 #[.agg #[.bool false, .pointer (some ⟨X, 0, none⟩), .pointer none, .pointer (some ⟨R, 0, none⟩)], .agg #[.int .i64 kd, .int .i64 tt, .int .i64 a, .int .i64 b]] w fun e w' => e = .returned (.bool true) ∧ ∃ G', Kt w' G' false X R L ∧ Ext G w G' w' := by
  have HZ1 := hide ((h.zk.alloc (.cells #[.bool false, .pointer (some ⟨X, 0, none⟩), .pointer none, .pointer (some ⟨R, 0, none⟩)] 47)).alloc (.cells #[.int .i64 kd, .int .i64 tt, .int .i64 a, .int .i64 b] 32))
  have hsz : (w.alloc (.cells #[.bool false, .pointer (some ⟨X, 0, none⟩), .pointer none, .pointer (some ⟨R, 0, none⟩)] 47)).heap.size = w.heap.size + 1 := by simp
  rw [hsz] at HZ1
  have HTi := hide h.1
  have HKc : Hid (∀ W a' r', Zk w G W false X R a' r' [(w.heap.size + 1, .cells #[.int .i64 kd, .int .i64 tt, .int .i64 a, .int .i64 b] 32), (w.heap.size, .cells #[.bool false, .pointer (some ⟨X, 0, none⟩), .pointer none, .pointer (some ⟨R, 0, none⟩)] 47)] → (W.cell? ⟨w.heap.size, 0, none⟩ = some (.bool false) ∧ W.cell? ⟨w.heap.size, 1, none⟩ = some (.pointer (some ⟨X, 0, none⟩)) ∧ W.cell? ⟨w.heap.size, 3, none⟩ = some (.pointer (some ⟨R, 0, none⟩))) ∧ W.cell? ⟨w.heap.size + 1, 0, none⟩ = some (.int .i64 kd) ∧ W.cell? ⟨w.heap.size + 1, 2, none⟩ = some (.int .i64 a) ∧ W.cell? ⟨w.heap.size + 1, 3, none⟩ = some (.int .i64 b)) := hide (fun W a' r' hz => by
    obtain ⟨o0, o1, o2, o3⟩ := row4 (hz.mem (.head _))
    obtain ⟨s0, s1, s2, s3⟩ := row4 (hz.mem (.tail _ (.head _)))
    exact ⟨⟨s0, s1, s3⟩, o0, o2, o3⟩)
  clear h hsz
  by_cases k2 : kd = 2
  · subst k2
    have HO := hide (fun w => two_any w (atI L a))
    obtain ⟨c, hc⟩ : ∃ c, ((atI L a).map cl).getD Cl.zero = c := ⟨_, rfl⟩
    have HC := hide hc
    rw [hc] at HO
    simp only [Cl.val] at HO
    clear hc
    obtain ⟨⟨s0, s1, s3⟩, o0, o2, o3⟩ := HKc.out _ _ _ HZ1.out
    go_enter Try.func21, Try.ntmps21
    go_wp2_with fail
    refine (HZ1.out.toRb HTi.out (Nat.le_of_lt hL) a).mono ?_
    rintro e w4 ⟨rfl, rfl⟩
    go_wp2_with fail
    refine (HZ1.out.toP a).mono ?_
    rintro e w9 ⟨rfl, hb9⟩
    rw [HC.out]
    simp only [Cl.val]
    have HZ9 := hide ((HZ1.out.below hb9).alloc (.cells #[.string c.s, .int .i64 c.a, .int .i64 c.b] 28))
    clear hb9 HZ1 s0 s1 s3 o0 o2 o3
    obtain ⟨c0, c1, c2, _, _, _⟩ := blk3 (HZ9.out.mem (.head _))
    go_wp2_with fail
    refine (HO.out _).mono ?_
    rintro e w10 ⟨rfl, hb10⟩
    have HZA := hide (HZ9.out.below hb10)
    clear hb10 HZ9 c0 c1 c2
    go_wp2
    go_ret
    obtain ⟨G1, h1, h2⟩ := HZA.out.kt HTi.out
    exact ⟨rfl, G1, h1, h2⟩
  · have n2 : (kd == 2) = false := by simp [k2]
    clear k2
    by_cases k3 : kd = 3
    · subst k3
      have HO := hide (fun w => one_any w (atI (sw L) b))
      obtain ⟨⟨s0, s1, s3⟩, o0, o2, o3⟩ := HKc.out _ _ _ HZ1.out
      go_enter Try.func21, Try.ntmps21
      go_wp2_with fail
      refine (HZ1.out.backRb HTi.out (Nat.le_of_lt hL) b).mono ?_
      rintro e w4 ⟨rfl, rfl⟩
      go_wp2_with fail
      generalize (w.alloc (.cells #[.bool false, .pointer (some ⟨X, 0, none⟩), .pointer none, .pointer (some ⟨R, 0, none⟩)] 47)).alloc (.cells #[.int .i64 3, .int .i64 tt, .int .i64 a, .int .i64 b] 32) = w4 at *
      have HD : Hid (Zk w G w4.drew false X R L L [(w.heap.size + 1, .cells #[.int .i64 3, .int .i64 tt, .int .i64 a, .int .i64 b] 32), (w.heap.size, .cells #[.bool false, .pointer (some ⟨X, 0, none⟩), .pointer none, .pointer (some ⟨R, 0, none⟩)] 47)]) := hide (HZ1.out.below (Below.refl _ _).drew)
      go_region_held (fun W => W.cell? ⟨w.heap.size, 1, none⟩ = some (.pointer (some ⟨X, 0, none⟩)) ∧ W.cell? ⟨w.heap.size + 1, 2, none⟩ = some (.int .i64 a) ∧ W.cell? ⟨w.heap.size + 1, 3, none⟩ = some (.int .i64 b))
        (first | assumption | exact q9 | exact q8 | exact And.intro s1 (And.intro o2 o3))
        (first
          | (go_at_call 8; refine (cell_agg _ b).mono ?_; rintro e w8 ⟨rfl, hb8⟩
             have HZ8 := hide (HD.out.below hb8)
             have q8 := And.intro (HKc.out _ _ _ HZ8.out).1.2.1 (HKc.out _ _ _ HZ8.out).2.2
             clear hb8)
          | (go_at_call 33; refine (HZ8.out.backP b).mono ?_; rintro e w9 ⟨rfl, hb9⟩
             have HZ9 := hide (HZ8.out.below hb9)
             have q9 := And.intro (HKc.out _ _ _ HZ9.out).1.2.1 (HKc.out _ _ _ HZ9.out).2.2
             clear hb9))
      clear q8 q9 HD HZ1 HZ8 s0 s1 s3 o0 o2 o3
      go_wp2_with fail
      refine (HO.out _).mono ?_
      rintro e w10 ⟨rfl, rfl⟩
      go_wp2
      go_ret
      obtain ⟨G1, h1, h2⟩ := HZ9.out.kt HTi.out
      exact ⟨rfl, G1, h1, h2⟩
    · have n3 : (kd == 3) = false := by simp [k3]
      clear k3
      obtain ⟨⟨s0, s1, s3⟩, o0, o2, o3⟩ := HKc.out _ _ _ HZ1.out
      obtain ⟨ao, cp, cR⟩ := HZ1.out.lenR
      go_enter Try.func21, Try.ntmps21
      go_wp2_with fail
      generalize (w.alloc (.cells #[.bool false, .pointer (some ⟨X, 0, none⟩), .pointer none, .pointer (some ⟨R, 0, none⟩)] 47)).alloc (.cells #[.int .i64 kd, .int .i64 tt, .int .i64 a, .int .i64 b] 32) = w4 at *
      have HD : Hid (Zk w G w4.drew false X R L L [(w.heap.size + 1, .cells #[.int .i64 kd, .int .i64 tt, .int .i64 a, .int .i64 b] 32), (w.heap.size, .cells #[.bool false, .pointer (some ⟨X, 0, none⟩), .pointer none, .pointer (some ⟨R, 0, none⟩)] 47)]) := hide (HZ1.out.below (Below.refl _ _).drew)
      go_region_held (fun W => W.cell? ⟨w.heap.size, 1, none⟩ = some (.pointer (some ⟨X, 0, none⟩)) ∧ W.cell? ⟨w.heap.size, 3, none⟩ = some (.pointer (some ⟨R, 0, none⟩)) ∧ W.cell? ⟨R, 0, none⟩ = some (.slice ao L.length cp))
        (first | assumption | exact And.intro s1 (And.intro s3 cR))
        (first
          | (go_at_call 12; refine (HD.out.lenP).mono ?_; rintro e w9 ⟨rfl, rfl⟩))
      go_wp2
      go_ret
      obtain ⟨G1, h1, h2⟩ := HD.out.kt HTi.out
      exact ⟨by first | rfl | simp, G1, h1, h2⟩
set_option maxHeartbeats 3200000 in
theorem looks_t (w : World) (G : Nat → Prop) (X R : Nat) (L : List (Int × Int)) (h : Kt w G true X R L) (hL : L.length < 4398046511104) (kd tt a b : Int) : Calls Try.prog 21 #[.agg #[.bool true, .pointer none, .pointer (some ⟨X, 0, none⟩), .pointer (some ⟨R, 0, none⟩)], .agg #[.int .i64 kd, .int .i64 tt, .int .i64 a, .int .i64 b]] w fun e w' => e = .returned (.bool true) ∧ ∃ G', Kt w' G' true X R L ∧ Ext G w G' w' := by
  have HZ1 := hide ((h.zk.alloc (.cells #[.bool true, .pointer none, .pointer (some ⟨X, 0, none⟩), .pointer (some ⟨R, 0, none⟩)] 47)).alloc (.cells #[.int .i64 kd, .int .i64 tt, .int .i64 a, .int .i64 b] 32))
  have hsz : (w.alloc (.cells #[.bool true, .pointer none, .pointer (some ⟨X, 0, none⟩), .pointer (some ⟨R, 0, none⟩)] 47)).heap.size = w.heap.size + 1 := by simp
  rw [hsz] at HZ1
  have HTi := hide h.1
  have HKc : Hid (∀ W a' r', Zk w G W true X R a' r' [(w.heap.size + 1, .cells #[.int .i64 kd, .int .i64 tt, .int .i64 a, .int .i64 b] 32), (w.heap.size, .cells #[.bool true, .pointer none, .pointer (some ⟨X, 0, none⟩), .pointer (some ⟨R, 0, none⟩)] 47)] → (W.cell? ⟨w.heap.size, 0, none⟩ = some (.bool true) ∧ W.cell? ⟨w.heap.size, 2, none⟩ = some (.pointer (some ⟨X, 0, none⟩)) ∧ W.cell? ⟨w.heap.size, 3, none⟩ = some (.pointer (some ⟨R, 0, none⟩))) ∧ W.cell? ⟨w.heap.size + 1, 0, none⟩ = some (.int .i64 kd) ∧ W.cell? ⟨w.heap.size + 1, 2, none⟩ = some (.int .i64 a) ∧ W.cell? ⟨w.heap.size + 1, 3, none⟩ = some (.int .i64 b)) := hide (fun W a' r' hz => by
    obtain ⟨o0, o1, o2, o3⟩ := row4 (hz.mem (.head _))
    obtain ⟨s0, s1, s2, s3⟩ := row4 (hz.mem (.tail _ (.head _)))
    exact ⟨⟨s0, s2, s3⟩, o0, o2, o3⟩)
  clear h hsz
  by_cases k2 : kd = 2
  · subst k2
    have HO := hide (fun w => one_any w (atI L a))
    obtain ⟨⟨s0, s1, s3⟩, o0, o2, o3⟩ := HKc.out _ _ _ HZ1.out
    go_enter Try.func21, Try.ntmps21
    go_wp2_with fail
    refine (HZ1.out.toRb HTi.out (Nat.le_of_lt hL) a).mono ?_
    rintro e w4 ⟨rfl, rfl⟩
    go_wp2_with fail
    generalize (w.alloc (.cells #[.bool true, .pointer none, .pointer (some ⟨X, 0, none⟩), .pointer (some ⟨R, 0, none⟩)] 47)).alloc (.cells #[.int .i64 2, .int .i64 tt, .int .i64 a, .int .i64 b] 32) = w4 at *
    have HD : Hid (Zk w G w4.drew true X R L L [(w.heap.size + 1, .cells #[.int .i64 2, .int .i64 tt, .int .i64 a, .int .i64 b] 32), (w.heap.size, .cells #[.bool true, .pointer none, .pointer (some ⟨X, 0, none⟩), .pointer (some ⟨R, 0, none⟩)] 47)]) := hide (HZ1.out.below (Below.refl _ _).drew)
    go_region_held (fun W => W.cell? ⟨w.heap.size, 2, none⟩ = some (.pointer (some ⟨X, 0, none⟩)) ∧ W.cell? ⟨w.heap.size + 1, 2, none⟩ = some (.int .i64 a) ∧ W.cell? ⟨w.heap.size + 1, 3, none⟩ = some (.int .i64 b))
      (first | assumption | exact q9 | exact q8 | exact And.intro s1 (And.intro o2 o3))
      (first
        | (go_at_call 8; refine (cell_agg _ a).mono ?_; rintro e w8 ⟨rfl, hb8⟩
           have HZ8 := hide (HD.out.below hb8)
           have q8 := And.intro (HKc.out _ _ _ HZ8.out).1.2.1 (HKc.out _ _ _ HZ8.out).2.2
           clear hb8)
        | (go_at_call 15; refine (HZ8.out.toQ a).mono ?_; rintro e w9 ⟨rfl, hb9⟩
           have HZ9 := hide (HZ8.out.below hb9)
           have q9 := And.intro (HKc.out _ _ _ HZ9.out).1.2.1 (HKc.out _ _ _ HZ9.out).2.2
           clear hb9))
    clear q8 q9 HD HZ1 HZ8 s0 s1 s3 o0 o2 o3
    go_wp2_with fail
    refine (HO.out _).mono ?_
    rintro e w10 ⟨rfl, rfl⟩
    go_wp2
    go_ret
    obtain ⟨G1, h1, h2⟩ := HZ9.out.kt HTi.out
    exact ⟨rfl, G1, h1, h2⟩
  · have n2 : (kd == 2) = false := by simp [k2]
    clear k2
    by_cases k3 : kd = 3
    · subst k3
      have HO := hide (fun w => two_any w (atI (sw L) b))
      obtain ⟨c, hc⟩ : ∃ c, ((atI (sw L) b).map cl).getD Cl.zero = c := ⟨_, rfl⟩
      have HC := hide hc
      rw [hc] at HO
      simp only [Cl.val] at HO
      clear hc
      obtain ⟨⟨s0, s1, s3⟩, o0, o2, o3⟩ := HKc.out _ _ _ HZ1.out
      go_enter Try.func21, Try.ntmps21
      go_wp2_with fail
      refine (HZ1.out.backRb HTi.out (Nat.le_of_lt hL) b).mono ?_
      rintro e w4 ⟨rfl, rfl⟩
      go_wp2_with fail
      refine (HZ1.out.backQ b).mono ?_
      rintro e w9 ⟨rfl, hb9⟩
      rw [HC.out]
      simp only [Cl.val]
      have HZ9 := hide ((HZ1.out.below hb9).alloc (.cells #[.string c.s, .int .i64 c.a, .int .i64 c.b] 28))
      clear hb9 HZ1 s0 s1 s3 o0 o2 o3
      obtain ⟨c0, c1, c2, _, _, _⟩ := blk3 (HZ9.out.mem (.head _))
      go_wp2_with fail
      refine (HO.out _).mono ?_
      rintro e w10 ⟨rfl, hb10⟩
      have HZA := hide (HZ9.out.below hb10)
      clear hb10 HZ9 c0 c1 c2
      go_wp2
      go_ret
      obtain ⟨G1, h1, h2⟩ := HZA.out.kt HTi.out
      exact ⟨rfl, G1, h1, h2⟩
    · have n3 : (kd == 3) = false := by simp [k3]
      clear k3
      obtain ⟨⟨s0, s1, s3⟩, o0, o2, o3⟩ := HKc.out _ _ _ HZ1.out
      obtain ⟨ao, cp, cR⟩ := HZ1.out.lenR
      go_enter Try.func21, Try.ntmps21
      go_wp2_with fail
      generalize (w.alloc (.cells #[.bool true, .pointer none, .pointer (some ⟨X, 0, none⟩), .pointer (some ⟨R, 0, none⟩)] 47)).alloc (.cells #[.int .i64 kd, .int .i64 tt, .int .i64 a, .int .i64 b] 32) = w4 at *
      have HD : Hid (Zk w G w4.drew true X R L L [(w.heap.size + 1, .cells #[.int .i64 kd, .int .i64 tt, .int .i64 a, .int .i64 b] 32), (w.heap.size, .cells #[.bool true, .pointer none, .pointer (some ⟨X, 0, none⟩), .pointer (some ⟨R, 0, none⟩)] 47)]) := hide (HZ1.out.below (Below.refl _ _).drew)
      go_region_held (fun W => W.cell? ⟨w.heap.size, 2, none⟩ = some (.pointer (some ⟨X, 0, none⟩)) ∧ W.cell? ⟨w.heap.size, 3, none⟩ = some (.pointer (some ⟨R, 0, none⟩)) ∧ W.cell? ⟨R, 0, none⟩ = some (.slice ao L.length cp))
        (first | assumption | exact And.intro s1 (And.intro s3 cR))
        (first
          | (go_at_call 11; refine (HD.out.lenQ).mono ?_; rintro e w9 ⟨rfl, rfl⟩))
      go_wp2
      go_ret
      obtain ⟨G1, h1, h2⟩ := HD.out.kt HTi.out
      exact ⟨by first | rfl | simp, G1, h1, h2⟩
theorem missing_f (w : World) (X R : Nat) : Calls Try.prog 18 #[.agg #[.bool false, .pointer (some ⟨X, 0, none⟩), .pointer none, .pointer (some ⟨R, 0, none⟩)]] w fun e w' => e = .returned (.bool false) ∧ Below w.heap.size w w' := by
  have HB := hide ((Below.refl w.heap.size w).alloc (Nat.le_refl _) (.cells #[.bool false, .pointer (some ⟨X, 0, none⟩), .pointer none, .pointer (some ⟨R, 0, none⟩)] 47))
  go_enter Try.func18, Try.ntmps18
  go_wp2
  go_ret
  exact ⟨rfl, HB.out⟩
theorem missing_t (w : World) (X R : Nat) : Calls Try.prog 18 #[.agg #[.bool true, .pointer none, .pointer (some ⟨X, 0, none⟩), .pointer (some ⟨R, 0, none⟩)]] w fun e w' => e = .returned (.bool false) ∧ Below w.heap.size w w' := by
  have HB := hide ((Below.refl w.heap.size w).alloc (Nat.le_refl _) (.cells #[.bool true, .pointer none, .pointer (some ⟨X, 0, none⟩), .pointer (some ⟨R, 0, none⟩)] 47))
  go_enter Try.func18, Try.ntmps18
  go_wp2
  go_ret
  exact ⟨rfl, HB.out⟩
end Go.Proofs.Ytdeilmllgbajbaa
