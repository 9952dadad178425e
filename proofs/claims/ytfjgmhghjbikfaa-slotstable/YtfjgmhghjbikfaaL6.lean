import Derived.Test.YtfjgmhghjbikfaaL5
namespace Go.Proofs.Ytfjgmhghjbikfaa
open Go.RowKit

set_option maxHeartbeats 3200000 in
theorem asks_any (w : World) (G : Nat → Prop) (A B R : Nat) (m : List (Option Int)) (h : Tri w G A B R m) (kd tt i v : Int) : Calls Try.prog 9 #[tv A B R, ov kd tt i v] w fun e w' => e = .returned (.bool true) ∧ ∃ m' G', Tri w' G' A B R m' ∧ Ext G w G' w' := by
  have HZ1 := hide ((h.z3.alloc (.cells #[.pointer (some ⟨A, 0, none⟩), .pointer (some ⟨B, 0, none⟩), .pointer (some ⟨R, 0, none⟩)] 28)).alloc (.cells #[.int .i64 kd, .int .i64 tt, .int .i64 i, .int .i64 v] 32))
  have hsz : (w.alloc (.cells #[.pointer (some ⟨A, 0, none⟩), .pointer (some ⟨B, 0, none⟩), .pointer (some ⟨R, 0, none⟩)] 28)).heap.size = w.heap.size + 1 := by simp
  rw [hsz] at HZ1
  clear h hsz
  unfold tv ov
  have HS := hide (fun w => same_any w (look m i))
  obtain ⟨c, hc⟩ : ∃ c, ((look m i).map cl).getD Cl.zero = c := ⟨_, rfl⟩
  have HC := hide hc
  rw [hc] at HS
  simp only [Cl.val] at HS
  clear hc
  by_cases k1 : kd = 3
  · subst k1
    obtain ⟨o0, o1, o2, o3⟩ := row4 (HZ1.out.mem (.head _))
    obtain ⟨s0, s1, s2, _, _, _⟩ := blk3 (HZ1.out.mem (.tail _ (.head _)))
    go_enter Try.func9, Try.ntmps9
    go_wp2_with fail
    refine (HZ1.out.getA i).mono ?_
    rintro e w4 ⟨rfl, rfl⟩
    go_wp2_with fail
    refine (HZ1.out.getB i).mono ?_
    rintro e w5 ⟨rfl, hz⟩
    rw [HC.out]
    simp only [Cl.val]
    have HZ2 := hide (hz.alloc (.cells #[.string c.s, .int .i64 c.a, .int .i64 c.b] 39))
    clear hz HZ1 o0 o1 o2 o3 s0 s1 s2
    obtain ⟨q0, q1, q2, _, _, _⟩ := blk3 (HZ2.out.mem (.head _))
    obtain ⟨o0, o1, o2, o3⟩ := row4 (HZ2.out.mem (.tail _ (.head _)))
    obtain ⟨s0, s1, s2, _, _, _⟩ := blk3 (HZ2.out.mem (.tail _ (.tail _ (.head _))))
    go_wp2_with fail
    refine (HZ2.out.getR i).mono ?_
    rintro e w6 ⟨rfl, rfl⟩
    go_wp2_with fail
    refine (HS.out _).mono ?_
    rintro e w7 ⟨rfl, hb7⟩
    have HZ3 := hide (HZ2.out.below hb7)
    clear hb7 HZ2 q0 q1 q2 o0 o1 o2 o3 s0 s1 s2
    go_wp2
    go_ret
    obtain ⟨G1, h1, h2⟩ := HZ3.out.tri
    exact ⟨by first | rfl | simp, _, G1, h1, h2⟩
  · by_cases k2 : kd = 5
    · subst k2
      obtain ⟨o0, o1, o2, o3⟩ := row4 (HZ1.out.mem (.head _))
      obtain ⟨s0, s1, s2, _, _, _⟩ := blk3 (HZ1.out.mem (.tail _ (.head _)))
      go_enter Try.func9, Try.ntmps9
      go_wp2_with fail
      refine (HZ1.out.dropA i).mono ?_
      rintro e w4 ⟨rfl, hz⟩
      have HZ2 := hide hz
      clear hz HZ1 o0 o1 o2 o3 s0 s1 s2
      obtain ⟨o0, o1, o2, o3⟩ := row4 (HZ2.out.mem (.head _))
      obtain ⟨s0, s1, s2, _, _, _⟩ := blk3 (HZ2.out.mem (.tail _ (.head _)))
      go_wp2_with fail
      refine (HZ2.out.dropB i).mono ?_
      rintro e w5 ⟨rfl, hz⟩
      rw [HC.out]
      simp only [Cl.val]
      have HZ3 := hide (hz.alloc (.cells #[.string c.s, .int .i64 c.a, .int .i64 c.b] 39))
      clear hz HZ2 o0 o1 o2 o3 s0 s1 s2
      obtain ⟨q0, q1, q2, _, _, _⟩ := blk3 (HZ3.out.mem (.head _))
      obtain ⟨o0, o1, o2, o3⟩ := row4 (HZ3.out.mem (.tail _ (.head _)))
      obtain ⟨s0, s1, s2, _, _, _⟩ := blk3 (HZ3.out.mem (.tail _ (.tail _ (.head _))))
      go_wp2_with fail
      refine (HZ3.out.dropR i).mono ?_
      rintro e w6 ⟨rfl, hz⟩
      have HZ4 := hide hz
      clear hz HZ3 q0 q1 q2 o0 o1 o2 o3 s0 s1 s2
      obtain ⟨q0, q1, q2, _, _, _⟩ := blk3 (HZ4.out.mem (.head _))
      obtain ⟨o0, o1, o2, o3⟩ := row4 (HZ4.out.mem (.tail _ (.head _)))
      obtain ⟨s0, s1, s2, _, _, _⟩ := blk3 (HZ4.out.mem (.tail _ (.tail _ (.head _))))
      go_wp2_with fail
      refine (HS.out _).mono ?_
      rintro e w7 ⟨rfl, hb7⟩
      have HZ5 := hide (HZ4.out.below hb7)
      clear hb7 HZ4 q0 q1 q2 o0 o1 o2 o3 s0 s1 s2
      go_wp2
      go_ret
      obtain ⟨G1, h1, h2⟩ := HZ5.out.tri
      exact ⟨by first | rfl | simp, _, G1, h1, h2⟩
    · by_cases k3 : kd = 6
      · subst k3
        obtain ⟨o0, o1, o2, o3⟩ := row4 (HZ1.out.mem (.head _))
        obtain ⟨s0, s1, s2, _, _, _⟩ := blk3 (HZ1.out.mem (.tail _ (.head _)))
        go_enter Try.func9, Try.ntmps9
        go_wp2_with fail
        refine (HZ1.out.nextR i).mono ?_
        rintro e w4 ⟨q, rfl, hq, rfl⟩
        have HQ := hide hq
        clear hq
        go_wp2_with fail
        refine (HZ1.out.nextA i).mono ?_
        rintro e w5 ⟨q', rfl, hq, rfl⟩
        obtain rfl := at_one HQ.out hq
        clear hq
        go_wp2_with fail
        refine (HZ1.out.nextB i).mono ?_
        rintro e w6 ⟨q2, rfl, hq, rfl⟩
        obtain rfl := at_one HQ.out hq
        clear hq
        go_wp2
        go_ret
        obtain ⟨G1, h1, h2⟩ := HZ1.out.tri
        exact ⟨by first | rfl | simp, _, G1, h1, h2⟩
      · by_cases k4 : kd = 8
        · subst k4
          obtain ⟨o0, o1, o2, o3⟩ := row4 (HZ1.out.mem (.head _))
          obtain ⟨s0, s1, s2, _, _, _⟩ := blk3 (HZ1.out.mem (.tail _ (.head _)))
          go_enter Try.func9, Try.ntmps9
          go_wp2_with fail
          refine (HZ1.out.findR v).mono ?_
          rintro e w4 ⟨q, rfl, hq, rfl⟩
          have HQ := hide hq
          clear hq
          generalize (w.alloc (.cells #[.pointer (some ⟨A, 0, none⟩), .pointer (some ⟨B, 0, none⟩), .pointer (some ⟨R, 0, none⟩)] 28)).alloc (.cells #[.int .i64 8, .int .i64 tt, .int .i64 i, .int .i64 v] 32) = w4 at *
          go_wp2
          have HBd : Hid (Below w4.heap.size w4 w4.drew) := hide (Below.refl _ _).drew
          have HK : Hid (∀ W, Below w4.heap.size w4 W → (W.cell? ⟨w.heap.size, 0, none⟩ = some (.pointer (some ⟨A, 0, none⟩)) ∧ W.cell? ⟨w.heap.size, 1, none⟩ = some (.pointer (some ⟨B, 0, none⟩)) ∧ W.cell? ⟨w.heap.size + 1, 3, none⟩ = some (.int .i64 v)) ∧ Z3 w G W A B R m (mc m) m []) := hide (fun W hW => by
            have h1 := HZ1.out.below hW
            obtain ⟨_, _, _, o3⟩ := row4 (h1.mem (.head _))
            obtain ⟨s0, s1, _, _, _, _⟩ := blk3 (h1.mem (.tail _ (.head _)))
            obtain ⟨FA, FB, FR, g1, g2, g3⟩ := h1
            exact ⟨⟨s0, s1, o3⟩, FA, FB, FR, g1, by simp, g3⟩)
          go_region_held (fun W => W.cell? ⟨w.heap.size, 0, none⟩ = some (.pointer (some ⟨A, 0, none⟩)) ∧ W.cell? ⟨w.heap.size, 1, none⟩ = some (.pointer (some ⟨B, 0, none⟩)) ∧ W.cell? ⟨w.heap.size + 1, 3, none⟩ = some (.int .i64 v))
            (first | assumption | exact q8 | exact q7 | exact q6 | exact And.intro s0 (And.intro s1 o3))
            (first
              | (go_at_call 42; refine ((HK.out _ HBd.out).2.findA v).mono ?_; rintro e w5 ⟨q5, rfl, hq5, hb5⟩
                 obtain rfl := found_one HQ.out hq5
                 have Q5 := hide (HBd.out.trans (hb5.mono HBd.out.size))
                 have q6 := (HK.out _ Q5.out).1
                 clear hb5 hq5)
              | (go_at_call 23; refine (cell_agg _ v).mono ?_; rintro e w6 ⟨rfl, hb6⟩
                 have Q6 := hide (Q5.out.trans (hb6.mono Q5.out.size))
                 have q7 := (HK.out _ Q6.out).1
                 clear hb6)
              | (go_at_call 43; refine ((HK.out _ Q6.out).2.findB v).mono ?_; rintro e w7 ⟨q9, rfl, hq9, hb7⟩
                 obtain rfl := found_one HQ.out hq9
                 have Q7 := hide (Q6.out.trans (hb7.mono Q6.out.size))
                 have q8 := (HK.out _ Q7.out).1
                 clear hb7 hq9))
          go_wp2
          go_ret
          obtain ⟨G1, h1, h2⟩ := (HK.out _ Q7.out).2.tri
          exact ⟨by first | rfl | simp, _, G1, h1, h2⟩
        · have n1 : (kd == 3) = false := by simp [k1]
          have n2 : (kd == 5) = false := by simp [k2]
          have n3 : (kd == 6) = false := by simp [k3]
          have n4 : (kd == 8) = false := by simp [k4]
          clear k1 k2 k3 k4
          obtain ⟨o0, o1, o2, o3⟩ := row4 (HZ1.out.mem (.head _))
          obtain ⟨s0, s1, s2, _, _, _⟩ := blk3 (HZ1.out.mem (.tail _ (.head _)))
          go_enter Try.func9, Try.ntmps9
          go_wp2_with fail
          refine HZ1.out.clearA.mono ?_
          rintro e w4 ⟨rfl, hz⟩
          have HZ2 := hide hz
          clear hz HZ1 o0 o1 o2 o3 s0 s1 s2
          obtain ⟨o0, o1, o2, o3⟩ := row4 (HZ2.out.mem (.head _))
          obtain ⟨s0, s1, s2, _, _, _⟩ := blk3 (HZ2.out.mem (.tail _ (.head _)))
          go_wp2_with fail
          refine HZ2.out.clearB.mono ?_
          rintro e w5 ⟨rfl, hz⟩
          have HZ3 := hide hz
          clear hz HZ2 o0 o1 o2 o3 s0 s1 s2
          obtain ⟨o0, o1, o2, o3⟩ := row4 (HZ3.out.mem (.head _))
          obtain ⟨s0, s1, s2, _, _, _⟩ := blk3 (HZ3.out.mem (.tail _ (.head _)))
          go_wp2_with fail
          refine HZ3.out.clearR.mono ?_
          rintro e w6 ⟨rfl, hz⟩
          have HZ4 := hide hz
          clear hz HZ3 o0 o1 o2 o3 s0 s1 s2
          go_wp2
          go_ret
          obtain ⟨G1, h1, h2⟩ := HZ4.out.tri
          exact ⟨by rfl, _, G1, h1, h2⟩
end Go.Proofs.Ytfjgmhghjbikfaa
