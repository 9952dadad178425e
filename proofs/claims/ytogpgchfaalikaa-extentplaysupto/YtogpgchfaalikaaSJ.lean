import Derived.Test.YtogpgchfaalikaaSI
namespace Go.Proofs.Ytogpgchfaalikaa
open Go.RowKit

section
variable {w w0 : World} {T K B R N M i : Nat} {C : Nat → Cl} {D : Dsk} {Q : Asn}
theorem flushE_two {F : Nat → Prop} (h : Tb w T (dvB B) C) (hd : DkA B D w F) (ha : D.acts < 1152921504606846976) : Calls Try.prog 25 #[tp T] w fun e w' => e = .returned (.int .i64 (flr D)) ∧ ∃ F', DkA B (flD D) w' F' ∧ Ext F w F' w' := by
  refine (flushE_via _ _ _ _ h (fun x w' => x = flr D ∧ ∃ F', DkA B (flD D) w' F' ∧ Ext F w F' w') ((flush_any hd ha).mono ?_)).mono ?_
  · rintro e w' ⟨rfl, h1⟩; exact ⟨_, rfl, rfl, h1⟩
  · rintro e w' ⟨x, rfl, rfl, h1⟩; exact ⟨rfl, h1⟩
theorem flushK_two {F G : Nat → Prop} (h : TkA K R C N w G) (hd : RkA R D M w F) (hM : M ≤ 2000000) (hc : D.c.length ≤ 2000000) (ha : D.acts < 1152921504606846976) : Calls Try.prog 44 #[tp K] w fun e w' => e = .returned (.int .i64 (flr D)) ∧ ∃ F', RkA R (flD D) (flM D M) w' F' ∧ Ext F w F' w' := by
  refine (flushK_via h (fun x w' => x = flr D ∧ ∃ F', RkA R (flD D) (flM D M) w' F' ∧ Ext F w F' w') ((flushR_any hd hM hc ha).mono ?_)).mono ?_
  · rintro e w' ⟨rfl, h1⟩; exact ⟨_, rfl, rfl, h1⟩
  · rintro e w' ⟨x, rfl, rfl, h1⟩; exact ⟨rfl, h1⟩
set_option maxRecDepth 100000 in
set_option maxHeartbeats 3200000 in
theorem played_flush (h : Sys w0 w (Qd T K B R C D N M Q)) (hQ : Good Q) (bd : Bd i C D N M) (hi : i ≤ 2000000) (n sec se ln : Int) (two : Bool) (b : Nat) (kv : Value) : Calls Try.prog 32 #[tp T, dp B, tp K, .agg #[.int .i64 7, .bool two, .int .i64 n, .int .i64 sec, .int .i64 se, .int .u8 (b : Int), .int .i64 ln, kv]] w fun e w' => e = .returned (.bool true) ∧ Sys w0 w' (Qd T K B R C (flD D) N (flM D M) Q) := by
  have HS := hide (h.enter hQ #[.int .i64 7, .bool two, .int .i64 n, .int .i64 sec, .int .i64 se, .int .u8 (b : Int), .int .i64 ln, kv])
  have HG := hide ((good_op w.heap.size #[.int .i64 7, .bool two, .int .i64 n, .int .i64 sec, .int .i64 se, .int .u8 (b : Int), .int .i64 ln, kv]).star hQ)
  have b1 := bd.n
  have b2 := bd.m
  have b3 := bd.a
  clear h bd
  go_enter Try.func32, Try.ntmps32
  go_wp2_with fail
  obtain ⟨F, hd, _, hk⟩ := HS.out.callD ((good_rk R D M).star HG.out)
  refine (flushE_two HS.out.tabs.1 hd (by omega)).mono ?_
  rintro e w1 ⟨rfl, F', h1, h2⟩
  have HS1 := hide (hk w1 F' _ h1 h2)
  clear hk h1 h2 hd HS
  go_wp2_with fail
  obtain ⟨F, hd, _, hk⟩ := HS1.out.callR good_pr (good_dk _ _) HG.out
  obtain ⟨F9, ht⟩ := HS1.out.tabs.2
  refine (flushK_two ht hd (by omega) (by omega) (by omega)).mono ?_
  rintro e w2 ⟨rfl, F', h1, h2⟩
  have HS2 := hide (hk w2 F' _ _ h1 h2)
  clear hk h1 h2 hd ht HS1
  go_wp2
  go_ret
  exact ⟨by simp, Sys.leave HS2.out⟩
set_option maxRecDepth 100000 in
set_option maxHeartbeats 3200000 in
theorem played_read (h : Sys w0 w (Qd T K B R C D N M Q)) (hQ : Good Q) (bd : Bd i C D N M) (hi : i ≤ 2000000) (n sec se ln : Int) (two : Bool) (b : Nat) (kv : Value) : Calls Try.prog 32 #[tp T, dp B, tp K, .agg #[.int .i64 5, .bool two, .int .i64 n, .int .i64 sec, .int .i64 se, .int .u8 (b : Int), .int .i64 ln, kv]] w fun e w' => e = .returned (.bool true) ∧ Sys w0 w' (Qd T K B R C D N M Q) := by
  have HS := hide (h.enter hQ #[.int .i64 5, .bool two, .int .i64 n, .int .i64 sec, .int .i64 se, .int .u8 (b : Int), .int .i64 ln, kv])
  have HG := hide ((good_op w.heap.size #[.int .i64 5, .bool two, .int .i64 n, .int .i64 sec, .int .i64 se, .int .u8 (b : Int), .int .i64 ln, kv]).star hQ)
  have b1 := bd.n
  have b2 := bd.m
  have b3 := bd.a
  clear h bd
  go_enter Try.func32, Try.ntmps32
  go_wp2_with fail
  obtain ⟨F, hd⟩ := HS.out.dk
  refine (readE_two HS.out.tabs.1 hd n sec).mono ?_
  rintro e w1 ⟨r1, rfl, ho1, hb1⟩
  have HS1 := hide (HS.out.below (good_qd HG.out) hb1)
  have d2 := HS1.out.opc 2 _ rfl
  have d3 := HS1.out.opc 3 _ rfl
  have HO1 := hide ho1
  clear hd ho1 hb1 HS
  go_wp2_with fail
  obtain ⟨F, hd⟩ := HS1.out.rk
  obtain ⟨F9, ht⟩ := HS1.out.tabs.2
  refine (readK_two ht (by omega) hd (by omega) (by omega) n sec).mono ?_
  rintro e w2 ⟨r2, rfl, ho2, hb2⟩
  have HS2 := hide (HS1.out.below (good_qd HG.out) hb2)
  have HO2 := hide ho2
  have HO3 := hide (HO1.out.below hb2 (Nat.le_refl _))
  clear hd ht ho2 hb2 HS1 HO1 d2 d3
  go_wp2_with fail
  refine (same_eq _ _ _ _ HO3.out.rd HO2.out.rd).mono ?_
  rintro e w3 ⟨rfl, rfl⟩
  go_wp2
  go_ret
  exact ⟨by simp, Sys.leave HS2.out⟩
set_option maxRecDepth 100000 in
set_option maxHeartbeats 3200000 in
theorem played_acts (h : Sys w0 w (Qd T K B R C D N M Q)) (hQ : Good Q) (n sec se ln : Int) (two : Bool) (b : Nat) (kv : Value) : Calls Try.prog 32 #[tp T, dp B, tp K, .agg #[.int .i64 13, .bool two, .int .i64 n, .int .i64 sec, .int .i64 se, .int .u8 (b : Int), .int .i64 ln, kv]] w fun e w' => e = .returned (.bool true) ∧ Sys w0 w' (Qd T K B R C D N M Q) := by
  have HS := hide (h.enter hQ #[.int .i64 13, .bool two, .int .i64 n, .int .i64 sec, .int .i64 se, .int .u8 (b : Int), .int .i64 ln, kv])
  have HG := hide ((good_op w.heap.size #[.int .i64 13, .bool two, .int .i64 n, .int .i64 sec, .int .i64 se, .int .u8 (b : Int), .int .i64 ln, kv]).star hQ)
  clear h
  go_enter Try.func32, Try.ntmps32
  go_wp2_with fail
  obtain ⟨F, hd⟩ := HS.out.dk
  refine (acts_any hd).mono ?_
  rintro e w1 ⟨rfl, rfl⟩
  have c1 := HS.out.rp
  clear hd
  go_wp2_with fail
  obtain ⟨F, hd⟩ := HS.out.rk
  refine (actsR_any hd).mono ?_
  rintro e w1 ⟨rfl, rfl⟩
  clear hd
  go_wp2
  go_ret
  exact ⟨by simp, Sys.leave HS.out⟩
set_option maxRecDepth 100000 in
set_option maxHeartbeats 3200000 in
theorem played_none (h : Sys w0 w (Qd T K B R C D N M Q)) (hQ : Good Q) (kd : Int) (k1 : kd ≠ 1) (k2 : kd ≠ 2) (k3 : kd ≠ 3) (k4 : kd ≠ 4) (k5 : kd ≠ 5) (k6 : kd ≠ 6) (k7 : kd ≠ 7) (k8 : kd ≠ 8) (k9 : kd ≠ 9) (k10 : kd ≠ 10) (k11 : kd ≠ 11) (k13 : kd ≠ 13) (n sec se ln : Int) (two : Bool) (b : Nat) (kv : Value) : Calls Try.prog 32 #[tp T, dp B, tp K, .agg #[.int .i64 kd, .bool two, .int .i64 n, .int .i64 sec, .int .i64 se, .int .u8 (b : Int), .int .i64 ln, kv]] w fun e w' => e = .returned (.bool true) ∧ Sys w0 w' (Qd T K B R C D N M Q) := by
  have HS := hide (h.enter hQ #[.int .i64 kd, .bool two, .int .i64 n, .int .i64 sec, .int .i64 se, .int .u8 (b : Int), .int .i64 ln, kv])
  clear h
  go_enter Try.func32, Try.ntmps32
  go_wp2
  go_ret
  exact ⟨by simp, Sys.leave HS.out⟩
end
end Go.Proofs.Ytogpgchfaalikaa
