import Derived.Test.YtogpgchfaalikaaSJ
namespace Go.Proofs.Ytogpgchfaalikaa
open Go.RowKit

section
variable {w w0 : World} {T K B R N M i : Nat} {C : Nat → Cl} {D : Dsk} {Q : Asn}
set_option maxRecDepth 100000 in
set_option maxHeartbeats 3200000 in
theorem played_arm (h : Sys w0 w (Qd T K B R C D N M Q)) (hQ : Good Q) (n sec se ln : Int) (two : Bool) (b : Nat) (kv : Value) (hn : n < 9223372036854775808) : Calls Try.prog 32 #[tp T, dp B, tp K, .agg #[.int .i64 9, .bool two, .int .i64 n, .int .i64 sec, .int .i64 se, .int .u8 (b : Int), .int .i64 ln, kv]] w fun e w' => e = .returned (.bool true) ∧ Sys w0 w' (Qd T K B R C (amD D n) N M Q) := by
  have HS := hide (h.enter hQ #[.int .i64 9, .bool two, .int .i64 n, .int .i64 sec, .int .i64 se, .int .u8 (b : Int), .int .i64 ln, kv])
  have HG := hide ((good_op w.heap.size #[.int .i64 9, .bool two, .int .i64 n, .int .i64 sec, .int .i64 se, .int .u8 (b : Int), .int .i64 ln, kv]).star hQ)
  clear h
  go_enter Try.func32, Try.ntmps32
  go_wp2_with fail
  obtain ⟨F, hd, _, hk⟩ := HS.out.callD ((good_rk R D M).star HG.out)
  refine (arm_any hd n hn).mono ?_
  rintro e w1 ⟨rfl, h1, h2⟩
  have HS1 := hide (hk w1 F _ h1 h2)
  clear hk h1 h2 hd HS
  go_upto_region 29 with fail
  obtain ⟨w2, hw2⟩ : ∃ w2, w2 = w1.drew := ⟨_, rfl⟩
  have hdr : Below w1.heap.size w1 w2 := by rw [hw2]; exact ⟨rfl, rfl, rfl, Nat.le_refl _, fun _ _ => rfl⟩
  have HS2 := hide (HS1.out.below (good_pr.star ((good_dk B _).star ((good_rk R D M).star HG.out))) hdr)
  have HP : Hid (w2.cell? ⟨K, 1, none⟩ = some (tp R) ∧ w2.cell? ⟨w.heap.size, 2, none⟩ = some (.int .i64 n)) := hide ⟨HS2.out.rp, HS2.out.opc 2 _ rfl⟩
  refine wp_region_held_drew (S := fun W => W.cell? ⟨K, 1, none⟩ = some (tp R) ∧ W.cell? ⟨w.heap.size, 2, none⟩ = some (.int .i64 n)) (by kernel_rfl) (by rw [← hw2]; exact HP.out) (fun _ => ?_)
  rw [← hw2]
  clear hw2 hdr HS1
  refine hd_take 0 (o := ⟨some 124, _, _, _, _, _⟩) (tp K) (by kernel_rfl) (by kernel_rfl) (by kernel_rfl) rfl (by rfl) (fun W hSw => by obtain ⟨q0, q1⟩ := hSw; go_simp) (fun _ _ _ h => h) HP.out ?_
  try simp only [Act.put, List.setIfInBounds_toArray, List.set_cons_zero, List.set_cons_succ]
  refine hd_take 1 (o := ⟨some 125, _, _, _, _, _⟩) (tp K) (by kernel_rfl) (by kernel_rfl) (by kernel_rfl) rfl (by rfl) (fun W hSw => by obtain ⟨q0, q1⟩ := hSw; go_simp) (fun _ _ _ h => h) HP.out ?_
  try simp only [Act.put, List.setIfInBounds_toArray, List.set_cons_zero, List.set_cons_succ]
  refine hd_take 2 (o := ⟨some 126, _, _, _, _, _⟩) (.pointer (some ⟨K, 1, none⟩)) (by kernel_rfl) (by kernel_rfl) (by kernel_rfl) rfl (by rfl) (fun W hSw => by obtain ⟨q0, q1⟩ := hSw; go_simp) (fun _ _ _ h => h) HP.out ?_
  try simp only [Act.put, List.setIfInBounds_toArray, List.set_cons_zero, List.set_cons_succ]
  refine hd_take 3 (o := ⟨some 127, _, _, _, _, _⟩) (tp R) (by kernel_rfl) (by kernel_rfl) (by kernel_rfl) rfl (by rfl) (fun W hSw => by obtain ⟨q0, q1⟩ := hSw; go_simp) (fun _ _ _ h => h) HP.out ?_
  try simp only [Act.put, List.setIfInBounds_toArray, List.set_cons_zero, List.set_cons_succ]
  refine hd_take 4 (o := ⟨some 128, _, _, _, _, _⟩) (.pointer (some ⟨w.heap.size, 2, none⟩)) (by kernel_rfl) (by kernel_rfl) (by kernel_rfl) rfl (by rfl) (fun W hSw => by obtain ⟨q0, q1⟩ := hSw; go_simp) (fun _ _ _ h => h) HP.out ?_
  try simp only [Act.put, List.setIfInBounds_toArray, List.set_cons_zero, List.set_cons_succ]
  refine hd_take 5 (o := ⟨some 129, _, _, _, _, _⟩) (.int .i64 n) (by kernel_rfl) (by kernel_rfl) (by kernel_rfl) rfl (by rfl) (fun W hSw => by obtain ⟨q0, q1⟩ := hSw; go_simp) (fun _ _ _ h => h) HP.out ?_
  try simp only [Act.put, List.setIfInBounds_toArray, List.set_cons_zero, List.set_cons_succ]
  refine hd_call 6 (o := ⟨some 130, _, _, _, _, _⟩) (by kernel_rfl) rfl (by rfl) (fun K' hK => ?_)
  go_simp
  obtain ⟨F, hd, _, hk⟩ := HS2.out.callR good_pr (good_dk _ _) HG.out
  go_wp2_with (go_at_call 45; refine (armR_two hd n hn).mono ?_; rintro e1 w3 ⟨rfl, h1, h2⟩)
  have HS3 := hide (hk w3 F _ _ h1 h2)
  clear hk h1 h2 hd HS2
  have HP3 : Hid (w3.cell? ⟨K, 1, none⟩ = some (tp R) ∧ w3.cell? ⟨w.heap.size, 2, none⟩ = some (.int .i64 n)) := hide ⟨HS3.out.rp, HS3.out.opc 2 _ rfl⟩
  refine hK _ _ HP3.out ?_
  clear hK K'
  try simp only [Act.put, List.setIfInBounds_toArray, List.set_cons_zero, List.set_cons_succ]
  refine hd_take 7 (o := ⟨some 20, _, _, _, _, _⟩) (.int .i64 (amr D n)) (by kernel_rfl) (by kernel_rfl) (by kernel_rfl) rfl (by rfl) (fun W hSw => by obtain ⟨q0, q1⟩ := hSw; go_simp) (fun _ _ _ h => h) HP3.out ?_
  try simp only [Act.put, List.setIfInBounds_toArray, List.set_cons_zero, List.set_cons_succ]
  refine wpAnyH_done (by kernel_rfl) ?_ _
  go_wp2
  go_ret
  exact ⟨by simp, Sys.leave HS3.out⟩
set_option maxRecDepth 100000 in
set_option maxHeartbeats 3200000 in
theorem played_raw (h : Sys w0 w (Qd T K B R C D N M Q)) (hQ : Good Q) (bd : Bd i C D N M) (hi : i ≤ 2000000) (n sec se ln : Int) (two : Bool) (b : Nat) (kv : Value) : Calls Try.prog 32 #[tp T, dp B, tp K, .agg #[.int .i64 11, .bool two, .int .i64 n, .int .i64 sec, .int .i64 se, .int .u8 (b : Int), .int .i64 ln, kv]] w fun e w' => e = .returned (.bool true) ∧ Sys w0 w' (Qd T K B R C D N M Q) := by
  have HS := hide (h.enter hQ #[.int .i64 11, .bool two, .int .i64 n, .int .i64 sec, .int .i64 se, .int .u8 (b : Int), .int .i64 ln, kv])
  have HG := hide ((good_op w.heap.size #[.int .i64 11, .bool two, .int .i64 n, .int .i64 sec, .int .i64 se, .int .u8 (b : Int), .int .i64 ln, kv]).star hQ)
  have b1 := bd.n
  have b2 := bd.m
  have b3 := bd.a
  clear h bd
  go_enter Try.func32, Try.ntmps32
  go_wp2_with fail
  obtain ⟨F, hd⟩ := HS.out.dk
  refine (raw_two hd sec).mono ?_
  rintro e w1 ⟨r1, rfl, ho1, hb1⟩
  have HS1 := hide (HS.out.below (good_qd HG.out) hb1)
  have HO1 := hide ho1
  clear hd ho1 hb1 HS
  go_upto_region 37 with fail
  obtain ⟨w2, hw2⟩ : ∃ w2, w2 = w1.drew := ⟨_, rfl⟩
  have hdr : Below w1.heap.size w1 w2 := by rw [hw2]; exact ⟨rfl, rfl, rfl, Nat.le_refl _, fun _ _ => rfl⟩
  have HS2 := hide (HS1.out.below (good_qd HG.out) hdr)
  have HP : Hid (w2.cell? ⟨K, 1, none⟩ = some (tp R) ∧ w2.cell? ⟨w.heap.size, 3, none⟩ = some (.int .i64 sec)) := hide ⟨HS2.out.rp, HS2.out.opc 3 _ rfl⟩
  have HO2 := hide (HO1.out.below hdr (Nat.le_refl _))
  clear HO1
  refine wp_region_held_drew (S := fun W => W.cell? ⟨K, 1, none⟩ = some (tp R) ∧ W.cell? ⟨w.heap.size, 3, none⟩ = some (.int .i64 sec)) (by kernel_rfl) (by rw [← hw2]; exact HP.out) (fun _ => ?_)
  rw [← hw2]
  clear hw2 hdr HS1
  refine hd_take 0 (o := ⟨some 161, _, _, _, _, _⟩) (tp K) (by kernel_rfl) (by kernel_rfl) (by kernel_rfl) rfl (by rfl) (fun W hSw => by obtain ⟨q0, q1⟩ := hSw; go_simp) (fun _ _ _ h => h) HP.out ?_
  try simp only [Act.put, List.setIfInBounds_toArray, List.set_cons_zero, List.set_cons_succ]
  refine hd_take 1 (o := ⟨some 162, _, _, _, _, _⟩) (tp K) (by kernel_rfl) (by kernel_rfl) (by kernel_rfl) rfl (by rfl) (fun W hSw => by obtain ⟨q0, q1⟩ := hSw; go_simp) (fun _ _ _ h => h) HP.out ?_
  try simp only [Act.put, List.setIfInBounds_toArray, List.set_cons_zero, List.set_cons_succ]
  refine hd_take 2 (o := ⟨some 163, _, _, _, _, _⟩) (.pointer (some ⟨K, 1, none⟩)) (by kernel_rfl) (by kernel_rfl) (by kernel_rfl) rfl (by rfl) (fun W hSw => by obtain ⟨q0, q1⟩ := hSw; go_simp) (fun _ _ _ h => h) HP.out ?_
  try simp only [Act.put, List.setIfInBounds_toArray, List.set_cons_zero, List.set_cons_succ]
  refine hd_take 3 (o := ⟨some 164, _, _, _, _, _⟩) (tp R) (by kernel_rfl) (by kernel_rfl) (by kernel_rfl) rfl (by rfl) (fun W hSw => by obtain ⟨q0, q1⟩ := hSw; go_simp) (fun _ _ _ h => h) HP.out ?_
  try simp only [Act.put, List.setIfInBounds_toArray, List.set_cons_zero, List.set_cons_succ]
  refine hd_take 4 (o := ⟨some 165, _, _, _, _, _⟩) (.pointer (some ⟨w.heap.size, 3, none⟩)) (by kernel_rfl) (by kernel_rfl) (by kernel_rfl) rfl (by rfl) (fun W hSw => by obtain ⟨q0, q1⟩ := hSw; go_simp) (fun _ _ _ h => h) HP.out ?_
  try simp only [Act.put, List.setIfInBounds_toArray, List.set_cons_zero, List.set_cons_succ]
  refine hd_take 5 (o := ⟨some 166, _, _, _, _, _⟩) (.int .i64 sec) (by kernel_rfl) (by kernel_rfl) (by kernel_rfl) rfl (by rfl) (fun W hSw => by obtain ⟨q0, q1⟩ := hSw; go_simp) (fun _ _ _ h => h) HP.out ?_
  try simp only [Act.put, List.setIfInBounds_toArray, List.set_cons_zero, List.set_cons_succ]
  refine hd_call 6 (o := ⟨some 167, _, _, _, _, _⟩) (by kernel_rfl) rfl (by rfl) (fun K' hK => ?_)
  go_simp
  obtain ⟨F, hd⟩ := HS2.out.rk
  go_wp2_with (go_at_call 48; refine (rawR_two hd (by omega) sec).mono ?_; rintro e1 w3 ⟨r2, rfl, ho2, hb2⟩)
  have HS3 := hide (HS2.out.below (good_qd HG.out) hb2)
  have HO3 := hide (HO2.out.below hb2 (Nat.le_refl _))
  have HO4 := hide ho2
  clear ho2 hb2 hd HS2 HO2
  have HP3 : Hid (w3.cell? ⟨K, 1, none⟩ = some (tp R) ∧ w3.cell? ⟨w.heap.size, 3, none⟩ = some (.int .i64 sec)) := hide ⟨HS3.out.rp, HS3.out.opc 3 _ rfl⟩
  refine hK _ _ HP3.out ?_
  clear hK K'
  try simp only [Act.put, List.setIfInBounds_toArray, List.set_cons_zero, List.set_cons_succ]
  refine hd_take 7 (o := ⟨some 160, _, _, _, _, _⟩) (.tuple #[r2, .int .i64 (rwr sec)]) (by kernel_rfl) (by kernel_rfl) (by kernel_rfl) rfl (by rfl) (fun W hSw => by obtain ⟨q0, q1⟩ := hSw; go_simp) (fun _ _ _ h => h) HP3.out ?_
  try simp only [Act.put, List.setIfInBounds_toArray, List.set_cons_zero, List.set_cons_succ]
  refine hd_take 8 (o := ⟨some 168, _, _, _, _, _⟩) (r2) (by kernel_rfl) (by kernel_rfl) (by kernel_rfl) rfl (by rfl) (fun W hSw => by obtain ⟨q0, q1⟩ := hSw; go_simp) (fun _ _ _ h => h) HP3.out ?_
  try simp only [Act.put, List.setIfInBounds_toArray, List.set_cons_zero, List.set_cons_succ]
  refine hd_take 9 (o := ⟨some 169, _, _, _, _, _⟩) (.int .i64 (rwr sec)) (by kernel_rfl) (by kernel_rfl) (by kernel_rfl) rfl (by rfl) (fun W hSw => by obtain ⟨q0, q1⟩ := hSw; go_simp) (fun _ _ _ h => h) HP3.out ?_
  try simp only [Act.put, List.setIfInBounds_toArray, List.set_cons_zero, List.set_cons_succ]
  refine hd_take 10 (o := ⟨some 25, _, _, _, _, _⟩) (r2) (by kernel_rfl) (by kernel_rfl) (by kernel_rfl) rfl (by rfl) (fun W hSw => by obtain ⟨q0, q1⟩ := hSw; go_simp) (fun _ _ _ h => h) HP3.out ?_
  try simp only [Act.put, List.setIfInBounds_toArray, List.set_cons_zero, List.set_cons_succ]
  refine hd_take 11 (o := ⟨some 26, _, _, _, _, _⟩) (.int .i64 (rwr sec)) (by kernel_rfl) (by kernel_rfl) (by kernel_rfl) rfl (by rfl) (fun W hSw => by obtain ⟨q0, q1⟩ := hSw; go_simp) (fun _ _ _ h => h) HP3.out ?_
  try simp only [Act.put, List.setIfInBounds_toArray, List.set_cons_zero, List.set_cons_succ]
  refine wpAnyH_done (by kernel_rfl) ?_ _
  go_wp2_with fail
  refine (same_eq _ _ _ _ HO3.out.rd HO4.out.rd).mono ?_
  rintro e w4 ⟨rfl, rfl⟩
  go_wp2
  go_ret
  exact ⟨by simp, Sys.leave HS3.out⟩
set_option maxRecDepth 100000 in
set_option maxHeartbeats 3200000 in
theorem played_crash (h : Sys w0 w (Qd T K B R C D N M Q)) (hQ : Good Q) (bd : Bd i C D N M) (hi : i ≤ 2000000) (n sec se ln : Int) (two : Bool) (b : Nat) (kv : Value) (ks : List Bool) (hks : RdB w0 kv ks) (hkl : ks.length ≤ 1048576) : Calls Try.prog 32 #[tp T, dp B, tp K, .agg #[.int .i64 10, .bool two, .int .i64 n, .int .i64 sec, .int .i64 se, .int .u8 (b : Int), .int .i64 ln, kv]] w fun e w' => e = .returned (.bool true) ∧ Sys w0 w' (Qd T K B R C (D.up.settled (kp ks)) N (M + D.c.length) Q) := by
  have HS := hide (h.enter hQ #[.int .i64 10, .bool two, .int .i64 n, .int .i64 sec, .int .i64 se, .int .u8 (b : Int), .int .i64 ln, kv])
  have HG := hide ((good_op w.heap.size #[.int .i64 10, .bool two, .int .i64 n, .int .i64 sec, .int .i64 se, .int .u8 (b : Int), .int .i64 ln, kv]).star hQ)
  have b1 := bd.n
  have b2 := bd.m
  have b3 := bd.a
  clear h bd
  go_enter Try.func32, Try.ntmps32
  go_wp2_with fail
  have HR1 := hide (hks.below (HS.out.bel) (Nat.le_refl _))
  refine (flags_any kv ks _ HR1.out hkl).mono ?_
  rintro e w1 ⟨fv, rfl, hf, hb1⟩
  obtain ⟨F, hd, hl, hk⟩ := HS.out.callD ((good_rk R D M).star HG.out)
  have hlt := (good_dk B D).lt hd
  have hd1 := (good_dk B D).below hd hb1
  have hff : ∀ b, fv.ownBlock = some b → ¬ F b := fun b e1 e2 => by have := (World.ownsRow.lt hf b e1).1; have := hlt b e2; omega
  have HF := hide hf.rd
  have HD := hide hd1
  have HN := hide hff
  have HK := hide (fun w' F' D' hh he => hk w' F' D' hh ((Ext.of_below (F := F) hb1).trans he))
  clear hk hd hd1 hlt hff hf hb1 hl
  go_wp2_with fail
  refine (crash_any HD.out fv ks HF.out HN.out).mono ?_
  rintro e w1 ⟨rfl, F', h1, h2⟩
  have HS1 := hide (HK.out w1 F' _ h1 h2)
  clear h1 h2 HD HK HN HF HS HR1
  go_upto_region 33 with fail
  obtain ⟨w2, hw2⟩ : ∃ w2, w2 = w1.drew := ⟨_, rfl⟩
  have hdr : Below w1.heap.size w1 w2 := by rw [hw2]; exact ⟨rfl, rfl, rfl, Nat.le_refl _, fun _ _ => rfl⟩
  have HS2 := hide (HS1.out.below (good_pr.star ((good_dk B _).star ((good_rk R D M).star HG.out))) hdr)
  have HP : Hid (w2.cell? ⟨K, 1, none⟩ = some (tp R) ∧ w2.cell? ⟨w.heap.size, 7, none⟩ = some (kv)) := hide ⟨HS2.out.rp, HS2.out.opc 7 _ rfl⟩
  refine wp_region_held_drew (S := fun W => W.cell? ⟨K, 1, none⟩ = some (tp R) ∧ W.cell? ⟨w.heap.size, 7, none⟩ = some (kv)) (by kernel_rfl) (by rw [← hw2]; exact HP.out) (fun _ => ?_)
  rw [← hw2]
  clear hw2 hdr HS1
  refine hd_take 0 (o := ⟨some 141, _, _, _, _, _⟩) (tp K) (by kernel_rfl) (by kernel_rfl) (by kernel_rfl) rfl (by rfl) (fun W hSw => by obtain ⟨q0, q1⟩ := hSw; go_simp) (fun _ _ _ h => h) HP.out ?_
  try simp only [Act.put, List.setIfInBounds_toArray, List.set_cons_zero, List.set_cons_succ]
  refine hd_take 1 (o := ⟨some 142, _, _, _, _, _⟩) (tp K) (by kernel_rfl) (by kernel_rfl) (by kernel_rfl) rfl (by rfl) (fun W hSw => by obtain ⟨q0, q1⟩ := hSw; go_simp) (fun _ _ _ h => h) HP.out ?_
  try simp only [Act.put, List.setIfInBounds_toArray, List.set_cons_zero, List.set_cons_succ]
  refine hd_take 2 (o := ⟨some 143, _, _, _, _, _⟩) (.pointer (some ⟨K, 1, none⟩)) (by kernel_rfl) (by kernel_rfl) (by kernel_rfl) rfl (by rfl) (fun W hSw => by obtain ⟨q0, q1⟩ := hSw; go_simp) (fun _ _ _ h => h) HP.out ?_
  try simp only [Act.put, List.setIfInBounds_toArray, List.set_cons_zero, List.set_cons_succ]
  refine hd_take 3 (o := ⟨some 144, _, _, _, _, _⟩) (tp R) (by kernel_rfl) (by kernel_rfl) (by kernel_rfl) rfl (by rfl) (fun W hSw => by obtain ⟨q0, q1⟩ := hSw; go_simp) (fun _ _ _ h => h) HP.out ?_
  try simp only [Act.put, List.setIfInBounds_toArray, List.set_cons_zero, List.set_cons_succ]
  refine hd_take 4 (o := ⟨some 145, _, _, _, _, _⟩) (.pointer (some ⟨w.heap.size, 7, none⟩)) (by kernel_rfl) (by kernel_rfl) (by kernel_rfl) rfl (by rfl) (fun W hSw => by obtain ⟨q0, q1⟩ := hSw; go_simp) (fun _ _ _ h => h) HP.out ?_
  try simp only [Act.put, List.setIfInBounds_toArray, List.set_cons_zero, List.set_cons_succ]
  refine hd_take 5 (o := ⟨some 146, _, _, _, _, _⟩) (kv) (by kernel_rfl) (by kernel_rfl) (by kernel_rfl) rfl (by rfl) (fun W hSw => by obtain ⟨q0, q1⟩ := hSw; go_simp) (fun _ _ _ h => h) HP.out ?_
  try simp only [Act.put, List.setIfInBounds_toArray, List.set_cons_zero, List.set_cons_succ]
  refine hd_call 6 (o := ⟨some 147, _, _, _, _, _⟩) (by kernel_rfl) rfl (by rfl) (fun K' hK => ?_)
  go_simp
  obtain ⟨F, hd, hl, hk⟩ := HS2.out.callR good_pr (good_dk _ _) HG.out
  go_wp2_with (go_at_call 46; refine (crashR_any hd (by omega) (by omega) kv ks (hks.below HS2.out.bel (Nat.le_refl _)) (fun e0 b e1 e2 => by have := hks.blk e0 b e1; have := hl b e2; omega)).mono ?_; rintro e1 w3 ⟨rfl, F', h1, h2⟩)
  have HS3 := hide (hk w3 F' _ _ h1 h2)
  clear hk h1 h2 hd HS2 hl
  have HP3 : Hid (w3.cell? ⟨K, 1, none⟩ = some (tp R) ∧ w3.cell? ⟨w.heap.size, 7, none⟩ = some (kv)) := hide ⟨HS3.out.rp, HS3.out.opc 7 _ rfl⟩
  refine hK _ _ HP3.out ?_
  clear hK K'
  try simp only [Act.put, List.setIfInBounds_toArray, List.set_cons_zero, List.set_cons_succ]
  refine hd_take 7 (o := ⟨some 22, _, _, _, _, _⟩) (.int .i64 ((keptTo (kp ks) D.c D.c.length).length : Nat)) (by kernel_rfl) (by kernel_rfl) (by kernel_rfl) rfl (by rfl) (fun W hSw => by obtain ⟨q0, q1⟩ := hSw; go_simp) (fun _ _ _ h => h) HP3.out ?_
  try simp only [Act.put, List.setIfInBounds_toArray, List.set_cons_zero, List.set_cons_succ]
  refine wpAnyH_done (by kernel_rfl) ?_ _
  go_wp2
  go_ret
  exact ⟨by simp, Sys.leave HS3.out⟩
end
end Go.Proofs.Ytogpgchfaalikaa
