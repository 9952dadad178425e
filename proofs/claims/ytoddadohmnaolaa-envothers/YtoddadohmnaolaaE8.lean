import Derived.Test.YtoddadohmnaolaaE7
namespace Go.Proofs.Ytoddadohmnaolaa
open Go.RowKit

section
variable (w : World) (F : Nat → Prop) (T : Nat) (rs : List (Option Er)) (last : Int)
set_option maxHeartbeats 800000 in
theorem notify_any (h : Et w F T rs last) (k : Nat) (r : Er) (hr : rs[k]? = some (some r)) (n : Int) (hn : 0 ≤ n ∧ n ≤ 4294967295) (hz : 0 ≤ bits .or .i64 r.bi n ∧ bits .or .i64 r.bi n ≤ 4294967295) : Calls Try.prog 14 #[.pointer (some ⟨T, 0, none⟩), .int .i64 (k : Int), .int .i64 n] w fun x w' => x = .returned (.int .i64 0) ∧ Et w' F T (rs.set k (some (noticed r n))) last ∧ Mod F w w' := by
  obtain ⟨S, G, m, h⟩ := h
  have c0 := h.cell.1
  have HG := hide (getL_any _ G S m h.tab (k : Int))
  rcases h.cases (k : Int) with ⟨_, h1⟩ | ⟨k', b, r', e1, hm, h3, h4, _, hR⟩
  · rw [look_nat, hr] at h1; cases h1
  · obtain rfl : k = k' := by omega
    rw [hr] at h3; cases h3
    rw [h4] at HG
    simp only [ptr, Option.isSome_some] at HG
    have HI := hide (isWord_any w n)
    rw [show decide (0 ≤ n ∧ n ≤ 4294967295) = true by simp [hn]] at HI
    have HW := hide (notice_any w b r hR n hz)
    have HH := hide h
    clear h h4 hR hn hz
    go_enter Try.func14, Try.ntmps14
    go_wp2_with fail
    refine HG.out.mono ?_
    rintro e1 w1 ⟨rfl, rfl⟩
    go_wp2_with fail
    refine HI.out.mono ?_
    rintro e1 w1 ⟨rfl, rfl⟩
    go_wp2_with fail
    refine HW.out.mono ?_
    rintro e1 w2 ⟨rfl, q1, q2⟩
    have HF := hide (Et.upd HH.out hm q1 q2)
    clear q1 q2
    go_wp2
    go_ret
    exact ⟨rfl, HF.out⟩
set_option maxHeartbeats 800000 in
theorem notifyBad_any (h : Et w F T rs last) (k : Nat) (r : Er) (hr : rs[k]? = some (some r)) (n : Int) (hn : ¬ (0 ≤ n ∧ n ≤ 4294967295)) : Calls Try.prog 14 #[.pointer (some ⟨T, 0, none⟩), .int .i64 (k : Int), .int .i64 n] w fun x w' => x = .returned (.int .i64 1) ∧ w' = w := by
  obtain ⟨S, G, m, h⟩ := h
  have c0 := h.cell.1
  have HG := hide (getL_any _ G S m h.tab (k : Int))
  rcases h.cases (k : Int) with ⟨_, h1⟩ | ⟨k', b, r', e1, hm, h3, h4, _, hR⟩
  · rw [look_nat, hr] at h1; cases h1
  · obtain rfl : k = k' := by omega
    rw [hr] at h3; cases h3
    rw [h4] at HG
    simp only [ptr, Option.isSome_some] at HG
    have HI := hide (isWord_any w n)
    rw [show decide (0 ≤ n ∧ n ≤ 4294967295) = false by simpa using hn] at HI
    clear h h4 hR hn
    go_enter Try.func14, Try.ntmps14
    go_wp2_with fail
    refine HG.out.mono ?_
    rintro e1 w1 ⟨rfl, rfl⟩
    go_wp2_with fail
    refine HI.out.mono ?_
    rintro e1 w1 ⟨rfl, rfl⟩
    go_wp2
    go_ret
    exact ⟨rfl, rfl⟩
set_option maxHeartbeats 800000 in
theorem flagged_any (h : Et w F T rs last) (k : Nat) (r : Er) (hr : rs[k]? = some (some r)) : Calls Try.prog 37 #[.pointer (some ⟨T, 0, none⟩), .int .i64 (k : Int)] w fun x w' => x = .returned (.bool r.fz) ∧ w' = w := by
  obtain ⟨S, G, m, h⟩ := h
  have c0 := h.cell.1
  have HG := hide (getL_any _ G S m h.tab (k : Int))
  rcases h.cases (k : Int) with ⟨_, h1⟩ | ⟨k', b, r', e1, hm, h3, h4, _, hR⟩
  · rw [look_nat, hr] at h1; cases h1
  · obtain rfl : k = k' := by omega
    rw [hr] at h3; cases h3
    rw [h4] at HG
    simp only [ptr, Option.isSome_some] at HG
    have c5 := hR.get (j := 5) rfl
    clear h h4 hR
    go_enter Try.func37, Try.ntmps37
    go_wp2_with fail
    refine HG.out.mono ?_
    rintro e1 w1 ⟨rfl, rfl⟩
    go_wp2
    go_ret
    exact ⟨rfl, rfl⟩
end
end Go.Proofs.Ytoddadohmnaolaa
