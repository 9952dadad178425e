import Derived.Test.YtogpgchfaalikaaSC
namespace Go.Proofs.Ytogpgchfaalikaa
open Go.RowKit

set_option maxRecDepth 100000 in
set_option maxHeartbeats 3200000 in
/-- a step of the five kinds that 'claims' plays -/
theorem played_claims (w : World) (T B K : Nat) (kd : Int) (hkd : kd = 1 ∨ kd = 2 ∨ kd = 3 ∨ kd = 4 ∨ kd = 8) (n sec se ln : Int) (two : Bool) (b : Nat) (kv : Value) (P : World → Prop)
    (hc : Calls Try.prog 40 #[tp T, tp K, .agg #[.int .i64 kd, .bool two, .int .i64 n, .int .i64 sec, .int .i64 se, .int .u8 (b : Int), .int .i64 ln, kv]] (w.alloc (.cells #[.int .i64 kd, .bool two, .int .i64 n, .int .i64 sec, .int .i64 se, .int .u8 (b : Int), .int .i64 ln, kv] 73)) fun e w' => e = .returned (.bool true) ∧ P w') :
    Calls Try.prog 32 #[tp T, dp B, tp K, .agg #[.int .i64 kd, .bool two, .int .i64 n, .int .i64 sec, .int .i64 se, .int .u8 (b : Int), .int .i64 ln, kv]] w fun e w' => e = .returned (.bool true) ∧ P w' := by
  have HC := hide hc
  clear hc
  rcases hkd with rfl | rfl | rfl | rfl | rfl
  all_goals
    go_enter Try.func32, Try.ntmps32
    go_wp2_with fail
    refine HC.out.mono ?_
    rintro e w1 ⟨rfl, hp⟩
    go_wp2
    go_ret
    exact ⟨rfl, hp⟩
end Go.Proofs.Ytogpgchfaalikaa
