import Derived.Test.YteloomlcaimlaabR1
namespace Go.Proofs.Yteloomlcaimlaab
open Go.RowKit
theorem bs_top {b : List Nat} {i d : Nat} (h : 131 ≤ (bs b i d).1) : ∀ k, bs b i (d + k) = bs b i d
  | 0 => rfl
  | k + 1 => by
    rw [← Nat.add_assoc, bs, bs_top h k, if_neg]
    have := mt_le b i (d + k + 1)
    have := mst_le b i
    omega
theorem bs_le (b : List Nat) (i k : Nat) : (bs b i k).1 ≤ 131 := by
  rcases (bs_spec b i k).2 with ⟨h, _⟩ | ⟨_, _, _, h, _⟩
  · omega
  · rw [← h]; exact Nat.le_trans (mt_le _ _ _) (mst_le _ _)
theorem bs_cp (b : List Nat) (i : Nat) : cp b i = if 4 ≤ (bs b i i).1 then bs b i i else (0, 0) := rfl
section
variable (w : World)
set_option maxRecDepth 100000 in
set_option maxHeartbeats 1000000 in
theorem best_any (v : Value) (b : List Nat) (i : Nat) (hv : Rb w w.heap.size v b) (hl : b.length ≤ 65536) (hi : i < b.length) :
    Calls Try.prog 32 #[v, .int .i64 (i : Nat)] w fun e w' => e = .returned (.tuple #[.int .i64 ((bs b i i).1 : Nat), .int .i64 ((bs b i i).2 : Nat)]) ∧ Below w.heap.size w w' := by
  have HV := hide hv
  obtain ⟨ao, cap, rfl, hcap⟩ := hv.len
  obtain ⟨n, hn⟩ : ∃ n, b.length = n := ⟨_, rfl⟩
  have HLn := hide hn
  rw [hn] at hl hi hcap HV ⊢
  clear hv hn
  go_enter Try.func32, Try.ntmps32
  go_upto_region 4 with fail
  go_loopw [6, 7, 8] (fun lv av dv wr => ∃ k : Nat, lv = .int .i64 ((bs b i k).1 : Nat) ∧ av = .int .i64 ((bs b i k).2 : Nat) ∧ dv = .int .i64 ((k + 1 : Nat) : Int) ∧ k ≤ i ∧ Below w.heap.size w wr) (fun _ _ dv _ => i + 1 - (intOf dv).toNat)
  case atStart => exact ⟨0, rfl, rfl, rfl, Nat.zero_le _, Below.refl _ _⟩
  case round =>
    obtain ⟨k, rfl, rfl, rfl, hk, hB⟩ := hrel
    have HB := hide hB
    have hsz := hB.size
    have HV2 := hide (HV.out.keep hB)
    obtain ⟨d, hd⟩ : ∃ d, k + 1 = d := ⟨_, rfl⟩
    have HD := hide hd
    have hb1 := bs_le b i k
    have HS : Hid (bs b i d = if (bs b i k).1 < mt b i d then (mt b i d, d) else bs b i k) := hide (by rw [← hd]; rfl)
    have HT : Hid (131 ≤ (bs b i k).1 → bs b i i = bs b i k) := hide (fun h => by
      have := bs_top h (i - k)
      rwa [show k + (i - k) = i by omega] at this)
    rw [hd]
    obtain ⟨R, hR⟩ : ∃ R, bs b i k = R := ⟨_, rfl⟩
    have HR := hide hR
    rw [hR] at hb1 HS HT ⊢
    obtain ⟨l, a⟩ := R
    simp only at hb1 HS HT ⊢
    clear hB hd hR
    have hdk := HD.out
    by_cases hdi : d ≤ i
    · have h1I : (d : Int) ≤ (i : Int) := by omega
      have h2I : (d : Int) ≤ 65536 := by omega
      by_cases hl131 : l < 131
      · have h3I : (l : Int) < 131 := by omega
        clear hdk
        go_wp2_with fail
        refine (match_any wr _ b i d _ HV2.out (by rw [HLn.out]; exact hl) (by rw [HLn.out]; exact hi) hdi).mono ?_
        rintro e w2 ⟨rfl, hb2⟩
        have HB2 := hide (HB.out.trans (hb2.mono hsz))
        clear hb2 HB HV2 HT
        generalize mt b i d = r at *
        by_cases hr : l < r
        · have hrI : (l : Int) < (r : Int) := by omega
          have HS2 := hide (HS.out.trans (if_pos hr))
          clear HS
          go_wp2
          go_roundw
          case rel => exact ⟨d, by rw [HS2.out], by rw [HS2.out], by go_num, hdi, HB2.out⟩
          case measure => simp [intOf]; omega
        · have hrI : ¬ (l : Int) < (r : Int) := by omega
          have HS2 := hide (HS.out.trans (if_neg hr))
          clear HS
          go_wp2
          go_roundw
          case rel => exact ⟨d, by rw [HS2.out], by rw [HS2.out], by go_num, hdi, HB2.out⟩
          case measure => simp [intOf]; omega
      · have h3I : ¬ (l : Int) < 131 := by omega
        have HT2 := hide (HT.out (by omega))
        clear hdk
        go_wp2
        go_ret2
        rw [HT2.out]
        exact ⟨rfl, HB.out⟩
    · have h1I : ¬ (d : Int) ≤ (i : Int) := by omega
      obtain rfl : k = i := by omega
      have HR2 := HR
      clear hdk
      go_wp2
      go_ret2
      rw [HR2.out]
      exact ⟨rfl, HB.out⟩
end
end Go.Proofs.Yteloomlcaimlaab
