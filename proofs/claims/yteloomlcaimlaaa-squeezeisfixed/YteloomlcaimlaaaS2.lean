import Derived.Test.YteloomlcaimlaaaS1
namespace Go.Proofs.Yteloomlcaimlaaa
open Go.RowKit
theorem drewN_zero (w : World) : w = w.drewN 0 := rfl
theorem drewN_add (w : World) (a b : Nat) : (w.drewN a).drewN b = w.drewN (a + b) := by
  simp [World.drewN, Nat.add_assoc]
section
variable (w : World)
set_option maxRecDepth 100000 in
set_option maxHeartbeats 1000000 in
theorem agrq_any (v : Value) (b : List Nat) (i d B : Nat) (hv : Rb w B v b) (hl : b.length ≤ 65536) (hi : i < b.length) (hd : d ≤ i) :
    Calls Try.prog 22 #[v, .int .i64 (i : Nat), .int .i64 (d : Nat)] w fun e w' => e = .returned (.int .i64 (mt b i d : Nat)) ∧ ∃ t, w' = w.drewN t := by
  have HV := hide hv
  obtain ⟨ao, cap, rfl, hcap⟩ := hv.len
  have hm1 := mt_le b i d
  have hm2 := mst_le b i
  have hm3 := mst_le2 b i
  have HA := hide (agr_at b (mst b i) (i - d) i)
  have HN := hide (agr_no b (mst b i) (i - d) i)
  rw [show agr b (i - d) i (mst b i) = mt b i d from rfl] at HA HN
  have HM : Hid (mst b i = min 131 (b.length - i)) := hide rfl
  obtain ⟨a, rfl, _, hc⟩ := hv.some_of (by omega)
  have HC := hide hc
  obtain ⟨n, hn⟩ : ∃ n, b.length = n := ⟨_, rfl⟩
  have HLn := hide hn
  rw [hn] at hl hi hcap hm3 HV HM HC ⊢
  generalize mt b i d = r at *
  generalize mst b i = m at *
  clear hv hc hn
  go_enter Try.func22, Try.ntmps22
  go_wp2
  go_loopw [7] (fun kv wr => ∃ k : Nat, kv = .int .i64 (k : Nat) ∧ k ≤ r ∧ ∃ t, wr = w.drewN t) (fun kv _ => r - (intOf kv).toNat)
  case atStart => exact ⟨0, rfl, Nat.zero_le _, 0, drewN_zero w⟩
  case round =>
    obtain ⟨k, rfl, hk, t0, rfl⟩ := hrel
    by_cases h131 : k < 131
    · have h1I : (k : Int) < 131 := by omega
      by_cases hin : i + k < n
      · have h2I : (i : Int) + (k : Int) < (n : Int) := by omega
        have hkm : k < m := by have := HM.out; omega
        have c1 := HC.out (i + k) (by omega)
        have c2 := HC.out (i - d + k) (by omega)
        have HK : Hid (b.getD (i - d + k) 0 = b.getD (i + k) 0 ↔ k < r) := hide ⟨fun h => by
          rcases Nat.lt_or_ge k r with h1 | h1
          · exact h1
          · obtain rfl : k = r := by omega
            exact absurd h (HN.out hkm), HA.out k⟩
        generalize b.getD (i + k) 0 = p1 at *
        generalize b.getD (i - d + k) 0 = p2 at *
        obtain ⟨y1, e1⟩ : ∃ y, i + k = y := ⟨_, rfl⟩
        obtain ⟨y2, e2⟩ : ∃ y, i - d + k = y := ⟨_, rfl⟩
        rw [e1] at c1
        rw [e2] at c2
        have j1 : IntKind.i64.wrap ((i : Int) + (k : Int)) = (y1 : Nat) := by rw [wi _ (by omega) (by omega)]; omega
        have j2 : IntKind.i64.wrap ((y1 : Int) - (d : Int)) = (y2 : Nat) := by rw [wi _ (by omega) (by omega)]; omega
        have j3 : (i : Int) + (k : Int) = (y1 : Nat) := by omega
        have i1 : (y1 : Int) < n := by omega
        have i2 : (y2 : Int) < n := by omega
        clear HA HN e1 e2 h2I
        by_cases hr : k < r
        · have he := eqN p1 p2 (HK.out.2 hr).symm
          clear HK
          go_upto_region 2 with fail
          go_quiet (fail)
          go_wp2
          go_roundw
          case rel => exact ⟨k + 1, by go_num, by omega, t0 + nq, by first | rfl | exact drewN_add w t0 nq⟩
          case measure => simp [intOf]; omega
        · have he := neN p1 p2 (fun h => hr (HK.out.1 h.symm))
          obtain rfl : k = r := by omega
          clear HK
          go_upto_region 2 with fail
          go_quiet (fail)
          go_wp2
          go_ret
          exact ⟨rfl, t0 + nq, by first | rfl | exact drewN_add w t0 nq⟩
      · have h2I : decide ((i : Int) + (k : Int) < (n : Int)) = false := by simp; omega
        obtain rfl : k = r := by
          have := HM.out
          omega
        go_upto_region 2 with fail
        go_quiet (fail)
        go_wp2
        go_ret
        exact ⟨rfl, t0 + nq, by first | rfl | exact drewN_add w t0 nq⟩
    · have h1I : decide ((k : Int) < 131) = false := by simp; omega
      obtain rfl : k = r := by omega
      go_upto_region 2 with fail
      go_quiet (fail)
      go_wp2
      go_ret
      exact ⟨rfl, t0 + nq, by first | rfl | exact drewN_add w t0 nq⟩
set_option maxHeartbeats 1000000 in
theorem same_q (v u : Value) (xs ys : List Nat) (B B' : Nat) (h1 : Rb w B v xs) (h2 : Rb w B' u ys) (hl : xs.length ≤ 140737488351232) :
    Calls Try.prog 13 #[v, u] w fun e w' => e = .returned (.bool (decide (xs = ys))) ∧ ∃ t, w' = w.drewN t := by
  have H1 := hide h1
  have H2 := hide h2
  obtain ⟨a1, c1, rfl, hc1⟩ := h1.len
  obtain ⟨a2, c2, rfl, hc2⟩ := h2.len
  obtain ⟨m, hm⟩ : ∃ m, ys.length = m := ⟨_, rfl⟩
  obtain ⟨n, hn⟩ : ∃ n, xs.length = n := ⟨_, rfl⟩
  have HN := hide hn
  have HM := hide hm
  rw [hn] at H1 hl
  rw [hm] at H2
  rw [hn, hm]
  clear h1 h2 hc1 hc2
  by_cases hnm : n = m
  · subst hnm
    have HX : Hid (∀ bv : Bool, (bv = decide (xs = ys)) → decide (xs = ys) = bv) := hide (fun _ h => h.symm)
    go_enter Try.func13, Try.ntmps13
    go_upto_region 4 with fail
    go_loopw [5] (fun iv wr => ∃ k : Nat, iv = .int .i64 (k : Nat) ∧ k ≤ n ∧ Hid (∀ j, j < k → xs.getD j 0 = ys.getD j 0) ∧ ∃ t, wr = w.drewN t) (fun iv _ => n - (intOf iv).toNat)
    case atStart => exact ⟨0, rfl, Nat.zero_le _, hide fun j h => by omega, 0, drewN_zero w⟩
    case round =>
      obtain ⟨k, rfl, hk, HA, t0, rfl⟩ := hrel
      by_cases hlt : k < n
      · have hkI : (k : Int) < (n : Int) := by omega
        obtain ⟨x1, rfl, _, d1⟩ := H1.out.some_of (by rw [HN.out]; omega)
        obtain ⟨x2, rfl, _, d2⟩ := H2.out.some_of (by rw [HM.out]; omega)
        have e1 := d1 k (by rw [HN.out]; exact hlt)
        have e2 := d2 k (by rw [HM.out]; exact hlt)
        clear d1 d2 H1 H2
        by_cases heq : xs.getD k 0 = ys.getD k 0
        · have HA2 : Hid (∀ j, j < k + 1 → xs.getD j 0 = ys.getD j 0) := hide (fun j hj => by
            by_cases e : j = k
            · rw [e]; exact heq
            · exact HA.out j (by omega))
          have he := eqN _ _ heq
          clear HA heq
          generalize xs.getD k 0 = p1 at *
          generalize ys.getD k 0 = p2 at *
          go_upto_region 6 with fail
          go_quiet (fail)
          go_wp2
          go_roundw
          case rel => exact ⟨k + 1, by go_num, by omega, HA2, t0 + nq, by first | rfl | exact drewN_add w t0 nq⟩
          case measure => simp [intOf]; omega
        · have HF : Hid (decide (xs = ys) = false) := hide (decide_eq_false fun e => heq (by rw [e]))
          have he := neN _ _ heq
          clear HA heq
          generalize xs.getD k 0 = p1 at *
          generalize ys.getD k 0 = p2 at *
          go_upto_region 6 with fail
          go_quiet (fail)
          go_wp2
          go_ret
          rw [HF.out]
          exact ⟨rfl, t0 + nq, by first | rfl | exact drewN_add w t0 nq⟩
      · obtain rfl : k = n := by omega
        have HT : Hid (decide (xs = ys) = true) := hide (decide_eq_true (eq_of_get (by rw [HN.out, HM.out]) (by rw [HN.out]; exact HA.out)))
        go_wp2
        go_ret
        rw [HT.out]
        exact ⟨rfl, t0, rfl⟩
  · have HF : Hid (decide (xs = ys) = false) := hide (decide_eq_false fun e => hnm (by rw [← HN.out, ← HM.out, e]))
    have hne : ((n : Int) == (m : Int)) = false := neN n m hnm
    go_enter Try.func13, Try.ntmps13
    go_wp2
    go_ret
    rw [HF.out]
    exact ⟨rfl, 0, drewN_zero w⟩
end
end Go.Proofs.Yteloomlcaimlaaa
