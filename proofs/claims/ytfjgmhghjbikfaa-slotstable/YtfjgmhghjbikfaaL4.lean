import Derived.Test.YtfjgmhghjbikfaaL3
namespace Go.Proofs.Ytfjgmhghjbikfaa
open Go.RowKit

theorem row4 {w : World} {b : Nat} {x0 x1 x2 x3 : Value} {t : TypeId} (h : w.heap[b]? = some (.cells #[x0, x1, x2, x3] t)) :
    w.cell? ⟨b, 0, none⟩ = some x0 ∧ w.cell? ⟨b, 1, none⟩ = some x1 ∧ w.cell? ⟨b, 2, none⟩ = some x2 ∧ w.cell? ⟨b, 3, none⟩ = some x3 :=
  ⟨by rw [cell_of_row _ _ _ _ _ _ h]; rfl, by rw [cell_of_row _ _ _ _ _ _ h]; rfl, by rw [cell_of_row _ _ _ _ _ _ h]; rfl, by rw [cell_of_row _ _ _ _ _ _ h]; rfl⟩
def ov (kd tt i v : Int) : Value := .agg #[.int .i64 kd, .int .i64 tt, .int .i64 i, .int .i64 v]
set_option maxHeartbeats 1600000 in
theorem lays_any (w : World) (G : Nat → Prop) (A B R : Nat) (m : List (Option Int)) (h : Tri w G A B R m) (kd tt i v : Int) : Calls Try.prog 8 #[tv A B R, ov kd tt i v] w fun e w' => e = .returned (.bool true) ∧ ∃ m' G', Tri w' G' A B R m' ∧ Ext G w G' w' := by
  have HZ := hide ((h.z3.alloc (.cells #[.pointer (some ⟨A, 0, none⟩), .pointer (some ⟨B, 0, none⟩), .pointer (some ⟨R, 0, none⟩)] 28)).alloc (.cells #[.int .i64 kd, .int .i64 tt, .int .i64 i, .int .i64 v] 32))
  have hsz : (w.alloc (.cells #[.pointer (some ⟨A, 0, none⟩), .pointer (some ⟨B, 0, none⟩), .pointer (some ⟨R, 0, none⟩)] 28)).heap.size = w.heap.size + 1 := by simp
  rw [hsz] at HZ
  clear h hsz
  obtain ⟨o0, o1, o2, o3⟩ := row4 (HZ.out.mem (.head _))
  unfold tv ov
  go_enter Try.func8, Try.ntmps8
  go_wp2_with fail
  refine (cell_any _ v).mono ?_
  rintro e w2 ⟨rfl, hb2⟩
  have HZ1 := hide ((HZ.out.below hb2).alloc (.cells #[.string (cl v).s, .int .i64 (cl v).a, .int .i64 (cl v).b] 39))
  clear hb2 HZ o0 o1 o2 o3
  simp only [Cl.val]
  by_cases k1 : kd = 1
  · subst k1
    obtain ⟨q0, q1, q2, _, _, _⟩ := blk3 (HZ1.out.mem (.head _))
    obtain ⟨o0, o1, o2, o3⟩ := row4 (HZ1.out.mem (.tail _ (.head _)))
    obtain ⟨s0, s1, s2, _, _, _⟩ := blk3 (HZ1.out.mem (.tail _ (.tail _ (.head _))))
    go_wp2_with fail
    refine (HZ1.out.putA v).mono ?_
    rintro e w4 ⟨rfl, hz⟩
    have HZ2 := hide hz
    clear hz HZ1 o0 o1 o2 o3 s0 s1 s2 q0 q1 q2
    obtain ⟨q0, q1, q2, _, _, _⟩ := blk3 (HZ2.out.mem (.head _))
    obtain ⟨o0, o1, o2, o3⟩ := row4 (HZ2.out.mem (.tail _ (.head _)))
    obtain ⟨s0, s1, s2, _, _, _⟩ := blk3 (HZ2.out.mem (.tail _ (.tail _ (.head _))))
    go_wp2_with fail
    refine (HZ2.out.putB v).mono ?_
    rintro e w5 ⟨rfl, hz⟩
    have HZ3 := hide hz
    clear hz HZ2 o0 o1 o2 o3 s0 s1 s2 q0 q1 q2
    obtain ⟨q0, q1, q2, _, _, _⟩ := blk3 (HZ3.out.mem (.head _))
    obtain ⟨o0, o1, o2, o3⟩ := row4 (HZ3.out.mem (.tail _ (.head _)))
    obtain ⟨s0, s1, s2, _, _, _⟩ := blk3 (HZ3.out.mem (.tail _ (.tail _ (.head _))))
    go_wp2_with fail
    refine (HZ3.out.putR v).mono ?_
    rintro e w6 ⟨rfl, hz⟩
    have HZ4 := hide hz
    clear hz HZ3 o0 o1 o2 o3 s0 s1 s2 q0 q1 q2
    generalize pI m = x1 at *
    generalize pE m = x2 at *
    go_wp2
    go_ret
    obtain ⟨G1, h1, h2⟩ := HZ4.out.tri
    exact ⟨by first | rfl | simp, _, G1, h1, h2⟩
  · by_cases k2 : kd = 2
    · subst k2
      obtain ⟨q0, q1, q2, _, _, _⟩ := blk3 (HZ1.out.mem (.head _))
      obtain ⟨o0, o1, o2, o3⟩ := row4 (HZ1.out.mem (.tail _ (.head _)))
      obtain ⟨s0, s1, s2, _, _, _⟩ := blk3 (HZ1.out.mem (.tail _ (.tail _ (.head _))))
      go_wp2_with fail
      refine (HZ1.out.atA i v).mono ?_
      rintro e w4 ⟨rfl, hz⟩
      have HZ2 := hide hz
      clear hz HZ1 o0 o1 o2 o3 s0 s1 s2 q0 q1 q2
      obtain ⟨q0, q1, q2, _, _, _⟩ := blk3 (HZ2.out.mem (.head _))
      obtain ⟨o0, o1, o2, o3⟩ := row4 (HZ2.out.mem (.tail _ (.head _)))
      obtain ⟨s0, s1, s2, _, _, _⟩ := blk3 (HZ2.out.mem (.tail _ (.tail _ (.head _))))
      go_wp2_with fail
      refine (HZ2.out.atB i v).mono ?_
      rintro e w5 ⟨rfl, hz⟩
      have HZ3 := hide hz
      clear hz HZ2 o0 o1 o2 o3 s0 s1 s2 q0 q1 q2
      obtain ⟨q0, q1, q2, _, _, _⟩ := blk3 (HZ3.out.mem (.head _))
      obtain ⟨o0, o1, o2, o3⟩ := row4 (HZ3.out.mem (.tail _ (.head _)))
      obtain ⟨s0, s1, s2, _, _, _⟩ := blk3 (HZ3.out.mem (.tail _ (.tail _ (.head _))))
      go_wp2_with fail
      refine (HZ3.out.atR i v).mono ?_
      rintro e w6 ⟨rfl, hz⟩
      have HZ4 := hide hz
      clear hz HZ3 o0 o1 o2 o3 s0 s1 s2 q0 q1 q2
      generalize aE m i = x1 at *
      go_wp2
      go_ret
      obtain ⟨G1, h1, h2⟩ := HZ4.out.tri
      exact ⟨by first | rfl | simp, _, G1, h1, h2⟩
    · have n1 : (kd == 1) = false := by simp [k1]
      have n2 : (kd == 2) = false := by simp [k2]
      clear k1 k2
      obtain ⟨q0, q1, q2, _, _, _⟩ := blk3 (HZ1.out.mem (.head _))
      obtain ⟨o0, o1, o2, o3⟩ := row4 (HZ1.out.mem (.tail _ (.head _)))
      obtain ⟨s0, s1, s2, _, _, _⟩ := blk3 (HZ1.out.mem (.tail _ (.tail _ (.head _))))
      go_wp2_with fail
      refine (HZ1.out.setA i v).mono ?_
      rintro e w4 ⟨rfl, hz⟩
      have HZ2 := hide hz
      clear hz HZ1 o0 o1 o2 o3 s0 s1 s2 q0 q1 q2
      obtain ⟨q0, q1, q2, _, _, _⟩ := blk3 (HZ2.out.mem (.head _))
      obtain ⟨o0, o1, o2, o3⟩ := row4 (HZ2.out.mem (.tail _ (.head _)))
      obtain ⟨s0, s1, s2, _, _, _⟩ := blk3 (HZ2.out.mem (.tail _ (.tail _ (.head _))))
      go_wp2_with fail
      refine (HZ2.out.setB i v).mono ?_
      rintro e w5 ⟨rfl, hz⟩
      have HZ3 := hide hz
      clear hz HZ2 o0 o1 o2 o3 s0 s1 s2 q0 q1 q2
      obtain ⟨q0, q1, q2, _, _, _⟩ := blk3 (HZ3.out.mem (.head _))
      obtain ⟨o0, o1, o2, o3⟩ := row4 (HZ3.out.mem (.tail _ (.head _)))
      obtain ⟨s0, s1, s2, _, _, _⟩ := blk3 (HZ3.out.mem (.tail _ (.tail _ (.head _))))
      go_wp2_with fail
      refine (HZ3.out.setR i v).mono ?_
      rintro e w6 ⟨rfl, hz⟩
      have HZ4 := hide hz
      clear hz HZ3 o0 o1 o2 o3 s0 s1 s2 q0 q1 q2
      generalize (look m i).isSome = x1 at *
      cases x1
      all_goals
        go_wp2
        go_ret
        obtain ⟨G1, h1, h2⟩ := HZ4.out.tri
        exact ⟨by first | rfl | simp, _, G1, h1, h2⟩
end Go.Proofs.Ytfjgmhghjbikfaa
