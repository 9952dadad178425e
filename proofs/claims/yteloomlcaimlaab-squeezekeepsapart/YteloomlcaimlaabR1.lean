import Derived.Test.YteloomlcaimlaabG1
namespace Go.Proofs.Yteloomlcaimlaab
open Go.RowKit
section
variable (w : World)
set_option maxRecDepth 100000 in
set_option maxHeartbeats 1000000 in
theorem match_any (v : Value) (b : List Nat) (i d B : Nat) (hv : Rb w B v b) (hl : b.length ≤ 65536) (hi : i < b.length) (hd : d ≤ i) :
    Calls Try.prog 34 #[v, .int .i64 (i : Nat), .int .i64 (d : Nat)] w fun e w' => e = .returned (.int .i64 (mt b i d : Nat)) ∧ Below w.heap.size w w' := by
  have HV := hide hv
  obtain ⟨ao, cap, rfl, hcap⟩ := hv.len
  have hm1 := mt_le b i d
  have hm2 := mst_le b i
  have hm3 := mst_le2 b i
  have HA := hide (agr_at b (mst b i) (i - d) i)
  have HN := hide (agr_no b (mst b i) (i - d) i)
  rw [show agr b (i - d) i (mst b i) = mt b i d from rfl] at HA HN
  have HM : Hid (mst b i = min 131 (b.length - i)) := hide rfl
  obtain ⟨a, rfl, _, hc⟩ := hv.some_of (by omega)
  have HC := hide hc
  obtain ⟨n, hn⟩ : ∃ n, b.length = n := ⟨_, rfl⟩
  have HLn := hide hn
  rw [hn] at hl hi hcap hm3 HV HM HC ⊢
  generalize mt b i d = r at *
  generalize mst b i = m at *
  clear hv hc hn
  go_enter Try.func34, Try.ntmps34
  go_wp2
  go_loopw [7] (fun kv wr => ∃ k : Nat, kv = .int .i64 (k : Nat) ∧ k ≤ r ∧ Below w.heap.size w wr) (fun kv _ => r - (intOf kv).toNat)
  case atStart => exact ⟨0, rfl, Nat.zero_le _, Below.refl _ _⟩
  case round =>
    obtain ⟨k, rfl, hk, hB⟩ := hrel
    by_cases h131 : k < 131
    · have h1I : (k : Int) < 131 := by omega
      by_cases hin : i + k < n
      · have h2I : (i : Int) + (k : Int) < (n : Int) := by omega
        have hkm : k < m := by have := HM.out; omega
        have c1 := HC.out (i + k) (by omega)
        have c2 := HC.out (i - d + k) (by omega)
        rw [← hB.cell (World.block_lt_of_cell? w _ c1)] at c1
        rw [← hB.cell (World.block_lt_of_cell? w _ c2)] at c2
        have HK : Hid (b.getD (i - d + k) 0 = b.getD (i + k) 0 ↔ k < r) := hide ⟨fun h => by
          rcases Nat.lt_or_ge k r with h1 | h1
          · exact h1
          · obtain rfl : k = r := by omega
            exact absurd h (HN.out hkm), HA.out k⟩
        generalize b.getD (i + k) 0 = p1 at *
        generalize b.getD (i - d + k) 0 = p2 at *
        obtain ⟨y1, e1⟩ : ∃ y, i + k = y := ⟨_, rfl⟩
        obtain ⟨y2, e2⟩ : ∃ y, i - d + k = y := ⟨_, rfl⟩
        rw [e1] at c1
        rw [e2] at c2
        have j1 : IntKind.i64.wrap ((i : Int) + (k : Int)) = (y1 : Nat) := by rw [wi _ (by omega) (by omega)]; omega
        have j2 : IntKind.i64.wrap ((y1 : Int) - (d : Int)) = (y2 : Nat) := by rw [wi _ (by omega) (by omega)]; omega
        have j3 : (i : Int) + (k : Int) = (y1 : Nat) := by omega
        have i1 : (y1 : Int) < n := by omega
        have i2 : (y2 : Int) < n := by omega
        clear HA HN e1 e2 h2I
        by_cases hr : k < r
        · have he := eqN p1 p2 (HK.out.2 hr).symm
          clear HK
          go_upto_region 2 with fail
          go_quiet (fail)
          go_wp2
          go_roundw
          case rel => exact ⟨k + 1, by go_num, by omega, hB.trans (drewN_below _ _ _)⟩
          case measure => simp [intOf]; omega
        · have he := neN p1 p2 (fun h => hr (HK.out.1 h.symm))
          obtain rfl : k = r := by omega
          clear HK
          go_upto_region 2 with fail
          go_quiet (fail)
          go_wp2
          go_ret
          exact ⟨rfl, hB.trans (drewN_below _ _ _)⟩
      · have h2I : decide ((i : Int) + (k : Int) < (n : Int)) = false := by simp; omega
        obtain rfl : k = r := by
          have := HM.out
          omega
        go_upto_region 2 with fail
        go_quiet (fail)
        go_wp2
        go_ret
        exact ⟨rfl, hB.trans (drewN_below _ _ _)⟩
    · have h1I : decide ((k : Int) < 131) = false := by simp; omega
      obtain rfl : k = r := by omega
      go_upto_region 2 with fail
      go_quiet (fail)
      go_wp2
      go_ret
      exact ⟨rfl, hB.trans (drewN_below _ _ _)⟩
end
end Go.Proofs.Yteloomlcaimlaab
