import Derived.Test.YtogpgchfaalikaaR4
namespace Go.Proofs.Ytogpgchfaalikaa
open Go.RowKit

section
variable {w : World} {K R N : Nat} {C : Nat → Cl} {F : Nat → Prop}
theorem claimK_bad (K : Nat) (z s : Int) (w : World) (hs : s < 1 ∨ 4611686018427387903 < s) : Calls Try.prog 57 #[tp K, .int .i64 z, .int .i64 s] w fun e w' => e = .returned (.tuple #[.int .i64 (-1), .int .i64 1]) ∧ w' = w := by
  rcases Int.lt_or_le s 1 with h1 | h1
  · have hd : decide (s < 1) = true := by simp [h1]
    go_enter Try.func57, Try.ntmps57
    go_wp2
    go_ret2
    exact ⟨rfl, rfl⟩
  · have hd : decide (s < 1) = false := by simp; omega
    have hd2 : decide (4611686018427387903 < s) = true := by simp; omega
    go_enter Try.func57, Try.ntmps57
    go_wp2
    go_ret2
    exact ⟨rfl, rfl⟩
theorem claimK_out (K : Nat) (z s : Int) (w : World) (hs : 1 ≤ s ∧ s ≤ 4611686018427387903) (hz1 : z ≠ -1) (hz : z < 0 ∨ 32 ≤ z) : Calls Try.prog 57 #[tp K, .int .i64 z, .int .i64 s] w fun e w' => e = .returned (.tuple #[.int .i64 (-1), .int .i64 100]) ∧ w' = w := by
  have hd1 : decide (s < 1) = false := by simp; omega
  have hd2 : decide (4611686018427387903 < s) = false := by simp; omega
  have hd3 : (z == -1) = false := by rw [beq_eq_false_iff_ne]; exact hz1
  rcases Int.lt_or_le z 0 with h1 | h1
  · have hd4 : decide (z < 0) = true := by simp [h1]
    go_enter Try.func57, Try.ntmps57
    go_wp2
    go_ret2
    exact ⟨rfl, rfl⟩
  · have hd4 : decide (z < 0) = false := by simp; omega
    have hd5 : decide (32 ≤ z) = true := by simp; omega
    go_enter Try.func57, Try.ntmps57
    go_wp2
    go_ret2
    exact ⟨rfl, rfl⟩
set_option maxHeartbeats 1600000 in
theorem claimK_taken (h : TkA K R C N w F) (hN : N ≤ 2000000) (n : Nat) (hn : n < 32) (h0 : 0 < (C n).ho) (s : Int) (hs : 1 ≤ s ∧ s ≤ 4611686018427387903) : Calls Try.prog 57 #[tp K, .int .i64 (n : Int), .int .i64 s] w fun e w' => e = .returned (.tuple #[.int .i64 (-1), .int .i64 101]) ∧ w' = w := by
  obtain ⟨cv, cl, hT, hRl, hlN, he⟩ := h
  obtain ⟨n', i, q1, q2, q3, q4, hA⟩ := at_yes hT hRl (by omega) (z := (n : Int)) (by rw [isCl_nat C hn]; simp [h0])
  have HA := hide hA
  clear q1 q2 q3 q4
  have hd1 : decide (s < 1) = false := by simp; omega
  have hd2 : decide (4611686018427387903 < s) = false := by simp; omega
  have hd3 : ((n : Int) == -1) = false := by rw [beq_eq_false_iff_ne]; omega
  have hd4 : decide ((n : Int) < 0) = false := by simp
  have hd5 : decide (32 ≤ (n : Int)) = false := by simp; omega
  have hd6 : decide (32 ≤ n) = false := by simp; omega
  have hd7 : decide (0 ≤ (i : Int)) = true := by simp
  clear hT hA
  go_enter Try.func57, Try.ntmps57
  go_wp2_with fail
  refine HA.out.mono ?_
  rintro e w1 ⟨rfl, rfl⟩
  go_wp2
  go_ret2
  exact ⟨rfl, rfl⟩
set_option maxRecDepth 100000 in
set_option maxHeartbeats 1600000 in
theorem claimK_full (h : TkA K R C N w F) (hN : N ≤ 2000000) (hL : Low C 32) (s : Int) (hs : 1 ≤ s ∧ s ≤ 4611686018427387903) : Calls Try.prog 57 #[tp K, .int .i64 (-1), .int .i64 s] w fun e w' => e = .returned (.tuple #[.int .i64 (-1), .int .i64 2]) ∧ w' = w := by
  obtain ⟨cv, cl, hT, hRl, hlN, he⟩ := h
  have HAt : Hid (∀ k : Nat, k < 32 → ∃ i : Nat, Calls Try.prog 69 #[tp K, .int .i64 (k : Int)] w fun e w' => e = .returned (.int .i64 (i : Int)) ∧ w' = w) := hide (fun k hk => by
    obtain ⟨n', i, _, _, _, _, hA⟩ := at_yes hT hRl (by omega) (z := (k : Int)) (by rw [isCl_nat C hk]; simp [hL.lo k hk])
    exact ⟨i, hA⟩)
  have hd1 : decide (s < 1) = false := by simp; omega
  have hd2 : decide (4611686018427387903 < s) = false := by simp; omega
  clear hT hL
  go_enter Try.func57, Try.ntmps57
  go_wp2_with fail
  go_loopw [1] (fun x wr => ∃ k : Nat, k ≤ 32 ∧ x = .int .i64 (k : Int) ∧ wr = w) (fun x _ => 32 - (intOf x).toNat)
  case atStart => exact ⟨0, by omega, rfl, rfl⟩
  case round =>
  obtain ⟨k, hk, rfl, rfl⟩ := hrel
  by_cases hlt : k < 32
  · have hd3 : decide ((k : Int) < 32) = true := by simp; omega
    obtain ⟨i, hA⟩ := HAt.out k hlt
    have HA := hide hA
    have hd7 : decide (0 ≤ (i : Int)) = true := by simp
    clear hA
    go_wp2_with fail
    refine HA.out.mono ?_
    rintro e w1 ⟨rfl, rfl⟩
    go_wp2
    go_roundw
    case rel =>
      first
        | exact ⟨k + 1, by omega, by go_num, by first | rfl | trivial⟩
        | ((repeat apply Exists.intro); refine ⟨?_, rfl⟩; exact ⟨k + 1, by omega, by go_num, by first | rfl | trivial⟩)
    case measure => simp [intOf]; omega
  · obtain rfl : k = 32 := by omega
    go_wp2
    go_ret2
    exact ⟨rfl, rfl⟩
set_option maxRecDepth 100000 in
set_option maxHeartbeats 1600000 in
theorem claimK_low (h : TkA K R C N w F) (hN : N ≤ 2000000) (n : Nat) (hLo : Low C n) (hn : n < 32) (s : Int) (hs : 1 ≤ s ∧ s ≤ 4611686018427387903) : Calls Try.prog 57 #[tp K, .int .i64 (-1), .int .i64 s] w fun e w' =>
    e = .returned (.tuple #[.int .i64 (n : Int), .int .i64 0]) ∧ ∃ F', TkA K R (put C n ⟨s, 1⟩) (N + 1) w' F' ∧ Ext F w F' w' := by
  have h0 := hLo.fr hn
  obtain ⟨cv, cl, hT, hRl, hlN, he⟩ := h
  obtain ⟨i3, hi, hz, hs3, hb⟩ := info39
  obtain ⟨c0, _, f0⟩ := hT.cv0
  have HA := hide (at_no hT hRl (by omega) (z := (n : Int)) (by rw [isCl_nat C hn]; simp [h0]))
  obtain ⟨a, cp, hv⟩ := hT.shape
  have HF := hide (fun (w2 : World) (cv2 : Value) (o : Obj) => claims_app (w2 := w2) (cv2 := cv2) (s := s) (o := o) hT hRl hlN he hn h0)
  have hrow := hT.row
  have HKn : Hid (∀ (o : Obj) (w2 : World), (w.alloc o).grownBy w2 cv.ownBlock → w2.cell? ⟨K, 0, none⟩ = some cv ∧ w2.frozen? ⟨K, 0, none⟩ = false) := hide (fun o w2 hg => by
    have hK2 : w2.heap[K]? = some (.cells #[cv, .pointer (some ⟨R, 0, none⟩)] 99 (0, 0)) := by
      have := hT.lt
      rw [hg.block K (by simp; omega) (fun e => hT.ne e.symm), Below.heap_alloc _ _ _ hT.lt]; exact hT.top
    exact ⟨by rw [cell_of_row _ _ _ _ _ _ hK2]; rfl, frozen_of_row _ _ _ _ _ hK2⟩)
  have hd1 : decide (s < 1) = false := by simp; omega
  have hd2 : decide (4611686018427387903 < s) = false := by simp; omega
  have hd3 : ((n : Int) == -1) = false := by rw [beq_eq_false_iff_ne]; omega
  have hd4 : decide ((n : Int) < 0) = false := by simp
  have hd5 : decide (32 ≤ (n : Int)) = false := by simp; omega
  have hd6 : decide (32 ≤ n) = false := by simp; omega
  obtain ⟨L, hL⟩ : ∃ L, cl.length = L := ⟨_, rfl⟩
  rw [hL] at hv hrow
  have HL := hide hL
  have hLN : L ≤ 2000000 := by omega
  subst hv
  have HAt : Hid (∀ k : Nat, k < n → ∃ i : Nat, Calls Try.prog 69 #[tp K, .int .i64 (k : Int)] w fun e w' => e = .returned (.int .i64 (i : Int)) ∧ w' = w) := hide (fun k hk => by
    obtain ⟨n', i, _, _, _, _, hA⟩ := at_yes hT hRl (by omega) (z := (k : Int)) (by rw [isCl_nat C (by omega)]; simp [hLo.lo k hk])
    exact ⟨i, hA⟩)
  have hne32 : ((n : Int) == 32) = false := by rw [beq_eq_false_iff_ne]; omega
  have hlt32 : decide ((n : Int) < 32) = true := by simp; omega
  clear hT hRl he hL hlN hLo
  go_enter Try.func57, Try.ntmps57
  go_wp2_with fail
  go_loopw [1] (fun x wr => ∃ k : Nat, k ≤ n ∧ x = .int .i64 (k : Int) ∧ wr = w) (fun x _ => 32 - (intOf x).toNat)
  case atStart => exact ⟨0, by omega, rfl, rfl⟩
  case round =>
  obtain ⟨k, hk, rfl, rfl⟩ := hrel
  by_cases hlt : k < n
  · have hd8 : decide ((k : Int) < 32) = true := by simp; omega
    obtain ⟨i, hA⟩ := HAt.out k hlt
    have HA2 := hide hA
    have hd7 : decide (0 ≤ (i : Int)) = true := by simp
    clear hA
    go_wp2_with fail
    refine HA2.out.mono ?_
    rintro e w1 ⟨rfl, rfl⟩
    go_wp2
    go_roundw
    case rel =>
      first
        | exact ⟨k + 1, by omega, by go_num, by first | rfl | trivial⟩
        | ((repeat apply Exists.intro); refine ⟨?_, rfl⟩; exact ⟨k + 1, by omega, by go_num, by first | rfl | trivial⟩)
    case measure => simp [intOf]; omega
  · obtain rfl : k = n := by omega
    go_wp2_with fail
    refine HA.out.mono ?_
    rintro e w1 ⟨rfl, rfl⟩
    go_wp2_with fail
    refine HA.out.mono ?_
    rintro e w1 ⟨rfl, rfl⟩
    go_upto_region 13 with fail
    have HW : Hid (∀ (cv2 : Value) (w2 : World), w2.ownsRow 0 39 3 cv2 (L + 1) (encCs cl ++ [.int .i64 (k : Int), .int .i64 s, .int .i64 1]) → (w1.alloc (.cells #[.int .i64 (k : Int), .int .i64 s, .int .i64 1] 39)).grownBy w2 (Value.slice a L cp).ownBlock → (cv2.ownBlock = (Value.slice a L cp).ownBlock ∨ cv2.ownBlock = some (w1.alloc (.cells #[.int .i64 (k : Int), .int .i64 s, .int .i64 1] 39)).heap.size) → ∃ F', TkA K R (put C k ⟨s, 1⟩) (N + 1) (w2.setCell ⟨K, 0, none⟩ cv2) F' ∧ Ext F w1 F' (w2.setCell ⟨K, 0, none⟩ cv2)) :=
      hide (fun cv2 w2 q1 q2 q3 => HF.out w2 cv2 _ (by rw [HL.out]; exact q1) q2 q3)
    clear HF
    go_upto_region 14 with (at_builtin; refine wpList_append_own_at _ rfl _ _ 36 rfl 0 39 i3 (.agg #[.int .i64 0, .int .i64 0, .int .i64 0]) 3 24 Try.underlying36 hi hz hs3 hb rfl (by decide) (.slice a L cp) L (encCs cl) rfl (hrow.alloc _) ⟨w1.heap.size, 0, none⟩ 1 1 [.int .i64 (k : Int), .int .i64 s, .int .i64 1] rfl rfl (cell_three_new _ _ _ _ _) (by simp [Value.oneCell']) (by unfold maxLen; omega) (by omega) (by omega) ?_; intro cv2 w2 ho2 hg2 _ hl2; obtain ⟨k0, k1⟩ := HKn.out _ w2 hg2; have HE := hide (HW.out cv2 w2 ho2 hg2 hl2); obtain ⟨a2, c2, rfl⟩ := own_shape ho2; clear ho2 hg2 hl2 HW)
    generalize w2.setCell ⟨K, 0, none⟩ (.slice a2 (L + 1) c2) = w3 at *
    go_wp2
    go_ret2
    exact ⟨rfl, HE.out⟩
end
end Go.Proofs.Ytogpgchfaalikaa
