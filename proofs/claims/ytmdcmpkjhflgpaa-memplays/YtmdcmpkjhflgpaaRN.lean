import Derived.Test.YtmdcmpkjhflgpaaRM
namespace Go.Proofs.Ytmdcmpkjhflgpaa
open Go.RowKit

section
variable {w : World} {x : Ix} {m r : Nat → Fr} {o : Ost}
set_option maxRecDepth 10000 in
set_option maxHeartbeats 2000000 in
theorem pl_11 (h : Pr w x m r) (hk : o.kd = 11) :
    Calls Try.prog 6 #[.pointer (some ⟨x.B, 0, none⟩), .pointer (some ⟨x.B', 0, none⟩), .agg o.cells.toArray] w fun e w' => e = .returned (.bool true) ∧ PPost w w' x m := by
  have hN := h.not_own
  have hO := Ob.new w o
  have hB0 : Below w.heap.size w (w.alloc (.cells o.cells.toArray 31)) := (Below.refl _ _).alloc (Nat.le_refl _) _
  have h1 := h.below hB0
  go_enter Try.func6, Try.ntmps6
  go_upto_region 1 with fail
  generalize w.alloc (.cells o.cells.toArray 31) = w0 at *
  obtain ⟨_, c1, c2, c3, c4, c5⟩ := hO.c
  have r5 := hO.pg
  rw [hk] at c1
  have HK := hide hk
  have HB : Hid (∀ w', PPost w0 w' x m → PPost w w' x m) := hide (fun _ h => h.pre hB0)
  have H1 := hide h1
  have HO := hide hO
  have HN := hide hN
  clear hO h hk hB0 h1 hN
  generalize w.heap.size = N at *
  obtain ⟨p, c, hc1, hc2⟩ := two_info' H1.out o.fa
  have HC1 := hide hc1
  have HC2 := hide hc2
  clear hc1 hc2
  go_wp2_with fail
  refine HC1.out.mono ?_
  rintro e w1 ⟨rfl, hb1⟩
  clear c1 c2 c3 c4 c5 r5
  have hz := heap_alloc_last w1 (.cells Fr.nil.head.toArray 51)
  have hbF := hb1.trans (below_setRow ((Below.refl w1.heap.size w1).alloc (Nat.le_refl _) (.cells Fr.nil.head.toArray 51)) (Nat.le_refl _) p.head.toArray |>.mono hb1.size)
  have q1 : ((w1.alloc (.cells Fr.nil.head.toArray 51)).setRow w1.heap.size p.head.toArray).heap[w1.heap.size]? = some (.cells p.head.toArray 51 (0, 0)) := setRow_heap _ _ _ _ _ _ hz
  go_upto_region 16 with (refine wpList_store_row rfl 51 _ _ rfl w1.heap.size p.head.toArray rfl rfl 51 _ (heap_alloc_last w1 _) info42 rfl (head_one _) ?_)
  show Code.wp _ _ _ _ ((w1.alloc (.cells Fr.nil.head.toArray 51)).setRow w1.heap.size p.head.toArray)
  obtain ⟨_, _, d2, _, _, _⟩ := (HO.out.up hbF).c
  generalize (w1.alloc (.cells Fr.nil.head.toArray 51)).setRow w1.heap.size p.head.toArray = w2 at *
  generalize w1.heap.size = N1 at *
  have HF := hide hbF
  have HQ1 := hide q1
  clear hb1 hbF q1 hz
  go_wp2_with fail
  refine (HC2.out w2 HF.out).mono ?_
  rintro e w3 ⟨rfl, hb3⟩
  clear d2
  have hz := heap_alloc_last w3 (.cells Fr.nil.head.toArray 51)
  have hbG := hb3.trans (below_setRow ((Below.refl w3.heap.size w3).alloc (Nat.le_refl _) (.cells Fr.nil.head.toArray 51)) (Nat.le_refl _) p.head.toArray |>.mono hb3.size)
  have q2 : ((w3.alloc (.cells Fr.nil.head.toArray 51)).setRow w3.heap.size p.head.toArray).heap[w3.heap.size]? = some (.cells p.head.toArray 51 (0, 0)) := setRow_heap _ _ _ _ _ _ hz
  have q1 := (hbG.block N1 (Array.getElem?_eq_some_iff.1 HQ1.out).1).trans HQ1.out
  go_upto_region 17 with (refine wpList_store_row rfl 51 _ _ rfl w3.heap.size p.head.toArray rfl rfl 51 _ (heap_alloc_last w3 _) info42 rfl (head_one _) ?_)
  show Code.wp _ _ _ _ ((w3.alloc (.cells Fr.nil.head.toArray 51)).setRow w3.heap.size p.head.toArray)
  have HG := hide (HF.out.trans (hbG.mono HF.out.size))
  generalize (w3.alloc (.cells Fr.nil.head.toArray 51)).setRow w3.heap.size p.head.toArray = w4 at *
  generalize w3.heap.size = N3 at *
  have r1 : w4.rangeAt N1 0 p.head := fun j v hv => by rw [cell_of_row _ _ _ _ _ _ q1, Nat.zero_add]; simpa using hv
  have r2 : w4.rangeAt N3 0 p.head := fun j v hv => by rw [cell_of_row _ _ _ _ _ _ q2, Nat.zero_add]; simpa using hv
  clear hb3 hbG hz q1 q2
  obtain ⟨ps, ph, pd, pk, pw⟩ := p
  simp only [Fr.head] at r1 r2
  go_wp2_with (first | refine wpList_load_mid rfl 51 _ rfl N1 0 rfl _ _ r1 Try.underlying51 rfl info42 ?_ | refine wpList_load_mid rfl 51 _ rfl N3 0 rfl _ _ r2 Try.underlying51 rfl info42 ?_)
  go_ret
  exact ⟨by simp, HB.out _ (PPost.same (H1.out.below HG.out) (Mod.of_below HG.out))⟩
set_option maxRecDepth 10000 in
set_option maxHeartbeats 2000000 in
theorem pl_13 (h : Pr w x m r) (hk : o.kd = 13) :
    Calls Try.prog 6 #[.pointer (some ⟨x.B, 0, none⟩), .pointer (some ⟨x.B', 0, none⟩), .agg o.cells.toArray] w fun e w' => e = .returned (.bool true) ∧ PPost w w' x m := by
  have hN := h.not_own
  have hO := Ob.new w o
  have hB0 : Below w.heap.size w (w.alloc (.cells o.cells.toArray 31)) := (Below.refl _ _).alloc (Nat.le_refl _) _
  have h1 := h.below hB0
  go_enter Try.func6, Try.ntmps6
  go_upto_region 1 with fail
  generalize w.alloc (.cells o.cells.toArray 31) = w0 at *
  obtain ⟨_, c1, c2, c3, c4, c5⟩ := hO.c
  have r5 := hO.pg
  rw [hk] at c1
  have HK := hide hk
  have HB : Hid (∀ w', PPost w0 w' x m → PPost w w' x m) := hide (fun _ h => h.pre hB0)
  have H1 := hide h1
  have HO := hide hO
  have HN := hide hN
  clear hO h hk hB0 h1 hN
  generalize w.heap.size = N at *
  go_wp2_with fail
  refine (live_any w0 x.B x.G x.n m H1.out.mem H1.out.n64).mono ?_
  rintro e w1 ⟨v1, rfl, hv1, hb1⟩
  have HV1 := hide hv1
  have HB1 := hide hb1
  clear hv1 hb1 c1 c2 c3 c4 c5 r5
  go_wp2_with fail
  refine (rlive_any w1 x.B' x.G' x.n x.c x.a r (H1.out.ref.below HB1.out) H1.out.n64).mono ?_
  rintro e w2 ⟨v2, rfl, hv2, hb2⟩
  rw [lives_al H1.out.al] at hv2
  have HV2 := hide hv2
  have HB2 := hide hb2
  clear hv2 hb2
  go_wp2_with fail
  refine (sameI_any w2 _ _ v1 v2 (lives m x.n) (HV1.out.below HB2.out) HV2.out (Nat.le_trans (lives_len _ _) H1.out.n64)).mono ?_
  rintro e w3 ⟨rfl, hb3⟩
  have hall := HB1.out.trans ((HB2.out.trans (hb3.mono HB2.out.size)).mono HB1.out.size)
  have HA := hide hall
  clear hall hb3
  go_wp2
  go_ret
  exact ⟨rfl, HB.out _ (PPost.same (H1.out.below HA.out) (Mod.of_below HA.out))⟩
set_option maxRecDepth 10000 in
set_option maxHeartbeats 2000000 in
theorem ch_else (h : Pr w x m r) (n1 : o.kd ≠ 1) (n2 : o.kd ≠ 2) (n3 : o.kd ≠ 3) (n5 : o.kd ≠ 5) (n7 : o.kd ≠ 7) (n8 : o.kd ≠ 8) (n10 : o.kd ≠ 10) :
    Calls Try.prog 21 #[.pointer (some ⟨x.B, 0, none⟩), .pointer (some ⟨x.B', 0, none⟩), .agg o.cells.toArray] w fun e w' => e = .returned (.bool true) ∧ PPost w w' x m := by
  have hN := h.not_own
  have hO := Ob.new w o
  have hB0 : Below w.heap.size w (w.alloc (.cells o.cells.toArray 31)) := (Below.refl _ _).alloc (Nat.le_refl _) _
  have h1 := h.below hB0
  go_enter Try.func21, Try.ntmps21
  go_upto_region 1 with fail
  generalize w.alloc (.cells o.cells.toArray 31) = w0 at *
  obtain ⟨_, c1, c2, c3, c4, c5⟩ := hO.c
  have r5 := hO.pg
  have e1 : decide (o.kd = 1) = false := by simp; exact n1
  have e2 : decide (o.kd = 2) = false := by simp; exact n2
  have e3 : decide (o.kd = 3) = false := by simp; exact n3
  have e5 : decide (o.kd = 5) = false := by simp; exact n5
  have e7 : decide (o.kd = 7) = false := by simp; exact n7
  have e8 : decide (o.kd = 8) = false := by simp; exact n8
  have e10 : decide (o.kd = 10) = false := by simp; exact n10
  have HB : Hid (∀ w', PPost w0 w' x m → PPost w w' x m) := hide (fun _ h => h.pre hB0)
  have H1 := hide h1
  have HO := hide hO
  have HN := hide hN
  clear hO h hB0 h1 hN
  generalize w.heap.size = N at *
  go_wp2
  go_ret
  exact ⟨rfl, HB.out _ (PPost.same H1.out (Mod.refl _ _))⟩
theorem changes_any (h : Pr w x m r) (hb : ∀ j, (m j).h < 4611686018427387904) :
    Calls Try.prog 21 #[.pointer (some ⟨x.B, 0, none⟩), .pointer (some ⟨x.B', 0, none⟩), .agg o.cells.toArray] w fun e w' => e = .returned (.bool true) ∧ PPost w w' x m := by
  by_cases n1 : o.kd = 1
  · exact ch_1 h n1
  by_cases n2 : o.kd = 2
  · exact ch_2 h hb n2
  by_cases n3 : o.kd = 3
  · exact ch_3 h hb n3
  by_cases n5 : o.kd = 5
  · exact ch_5 h n5
  by_cases n7 : o.kd = 7
  · exact ch_7 h n7
  by_cases n8 : o.kd = 8
  · exact ch_8 h n8
  by_cases n10 : o.kd = 10
  · exact ch_10 h n10
  exact ch_else h n1 n2 n3 n5 n7 n8 n10
set_option maxRecDepth 10000 in
set_option maxHeartbeats 2000000 in
theorem pl_else (h : Pr w x m r) (hb : ∀ j, (m j).h < 4611686018427387904) (n4 : o.kd ≠ 4) (n6 : o.kd ≠ 6) (n9 : o.kd ≠ 9) (n11 : o.kd ≠ 11) (n12 : o.kd ≠ 12) (n13 : o.kd ≠ 13) :
    Calls Try.prog 6 #[.pointer (some ⟨x.B, 0, none⟩), .pointer (some ⟨x.B', 0, none⟩), .agg o.cells.toArray] w fun e w' => e = .returned (.bool true) ∧ PPost w w' x m := by
  have hN := h.not_own
  have hO := Ob.new w o
  have hB0 : Below w.heap.size w (w.alloc (.cells o.cells.toArray 31)) := (Below.refl _ _).alloc (Nat.le_refl _) _
  have h1 := h.below hB0
  go_enter Try.func6, Try.ntmps6
  go_upto_region 1 with fail
  generalize w.alloc (.cells o.cells.toArray 31) = w0 at *
  obtain ⟨_, c1, c2, c3, c4, c5⟩ := hO.c
  have r5 := hO.pg
  have e4 : decide (o.kd = 4) = false := by simp; exact n4
  have e6 : decide (o.kd = 6) = false := by simp; exact n6
  have e9 : decide (o.kd = 9) = false := by simp; exact n9
  have e11 : decide (o.kd = 11) = false := by simp; exact n11
  have e12 : decide (o.kd = 12) = false := by simp; exact n12
  have e13 : decide (o.kd = 13) = false := by simp; exact n13
  have HB : Hid (∀ w', PPost w0 w' x m → PPost w w' x m) := hide (fun _ h => h.pre hB0)
  have H1 := hide h1
  have HO := hide hO
  have HN := hide hN
  clear hO h hB0 h1 hN
  generalize w.heap.size = N at *
  have ra : ∀ (j : Nat) (v : Value), o.cells[j]? = some v → w0.cell? ((⟨N, 0, none⟩ : Addr).add j) = some v := fun j v hv => by rw [add0]; exact HO.out.get hv
  go_wp2_with (refine load34 rfl _ rfl ⟨N, 0, none⟩ rfl o ra ?_)
  refine (changes_any H1.out hb).mono ?_
  rintro e w1 ⟨rfl, hP⟩
  have HP := hide hP
  clear hP
  go_wp2
  go_ret
  exact ⟨rfl, HB.out _ HP.out⟩
theorem plays_any (h : Pr w x m r) (hb : ∀ j, (m j).h < 4611686018427387904) :
    Calls Try.prog 6 #[.pointer (some ⟨x.B, 0, none⟩), .pointer (some ⟨x.B', 0, none⟩), .agg o.cells.toArray] w fun e w' => e = .returned (.bool true) ∧ PPost w w' x m := by
  by_cases n4 : o.kd = 4
  · exact pl_4 h n4
  by_cases n6 : o.kd = 6
  · exact pl_6 h n6
  by_cases n9 : o.kd = 9
  · exact pl_9 h n9
  by_cases n11 : o.kd = 11
  · exact pl_11 h n11
  by_cases n12 : o.kd = 12
  · exact pl_12 h n12
  by_cases n13 : o.kd = 13
  · exact pl_13 h n13
  exact pl_else h hb n4 n6 n9 n11 n12 n13
end
end Go.Proofs.Ytmdcmpkjhflgpaa
