import Derived.Test.YtikifggencglkaaB1
import Derived.Test.YtikifggencglkaaW2
namespace Go.Proofs.Ytikifggencglkaa
open Go.RowKit

/-- what a store of a byte into an own slice leaves -/
theorem Ow.set {w : World} {base g cap j z : Nat} {zs : List Nat} (h : Ow w base (.slice (some ⟨g, 0, none⟩) zs.length cap) zs) (_hj : j < zs.length) :
    Ow (w.setCell ⟨g, j, none⟩ (By z)) base (.slice (some ⟨g, 0, none⟩) zs.length cap) (zs.set j z) := by
  obtain ⟨hl, ⟨h0, _⟩ | ⟨g', cap', cur, hv, hb, hg, hn, hm, hs, ht⟩⟩ := h
  · cases h0
  · cases hv
    refine ⟨by simp, .inr ⟨g, cap, cur.setIfInBounds j (By z), by simp, hb, heap_setCell_same w g j cur 5 (By z) hg, by simpa using hn, hm, by simpa using hs, ?_⟩⟩
    rw [List.map_set, ← ht, Array.toList_setIfInBounds]
    rw [List.length_set, List.take_set]
theorem Ow.cell {w : World} {base g cap j : Nat} {zs : List Nat} (h : Ow w base (.slice (some ⟨g, 0, none⟩) zs.length cap) zs) (hj : j < zs.length) :
    w.cell? ⟨g, j, none⟩ = some (.int .u8 (zs.getD j 0 : Nat)) ∧ w.frozen? ⟨g, j, none⟩ = false := by
  have hc := World.ownsRow.cells h rfl j (By (zs.getD j 0)) (by simp [List.getD, List.getElem?_eq_getElem hj])
  have hadd : (⟨g, 0, none⟩ : Addr).add j = ⟨g, j, none⟩ := by unfold Addr.add; split <;> simp_all
  rw [hadd] at hc
  obtain ⟨hl, ⟨h0, _⟩ | ⟨g', cap', cur, hv, hb, hg, hn, hm, hs, ht⟩⟩ := h
  · cases h0
  · cases hv
    exact ⟨hc, frozen_of_row w g j cur 5 hg⟩
theorem Ow.some_of {w : World} {base : Nat} {v : Value} {zs : List Nat} (h : Ow w base v zs) (hp : 0 < zs.length) : ∃ g cap, v = .slice (some ⟨g, 0, none⟩) zs.length cap ∧ base ≤ g := by
  obtain ⟨hl, ⟨_, h0⟩ | ⟨g, cap, cur, hv, hb, hg, hn, hm, hs, ht⟩⟩ := h
  · omega
  · exact ⟨g, cap, hv, hb⟩
theorem xor8 (a b : Nat) (h : a < 256) (h' : b < 256) : bits .xor .u8 (a : Int) (b : Int) = ((a ^^^ b : Nat) : Int) := u8_xor_nat a b h h'
theorem Rd.len {w : World} {v : Value} {zs : List Nat} (h : Rd w v zs) : ∃ ao cap, v = .slice ao zs.length cap := by
  rcases h with ⟨rfl, rfl⟩ | ⟨x, cap, rfl, _⟩
  · exact ⟨_, _, rfl⟩
  · exact ⟨_, _, rfl⟩

theorem bitLen_le32 (m : Nat) (hm : m < 4294967296) : bitLen m ≤ 32 := by
  unfold bitLen
  split
  · omega
  · rename_i h0
    have := (Nat.log2_lt h0).2 (show m < 2 ^ 32 by omega)
    omega
theorem shl8 (j : Nat) : (2 : Int) ^ (j % 8) % 256 = ((2 ^ (j % 8) : Nat) : Int) := by
  have h := MB.pow8_lt j
  have e : (2 : Int) ^ (j % 8) = ((2 ^ (j % 8) : Nat) : Int) := by simp
  rw [e]
  generalize 2 ^ (j % 8) = q at *
  omega

set_option maxHeartbeats 400000 in
theorem burst_L (v : Value) (zs : List Nat) (A m L : Nat) (w : World) (hv : Rd w v zs) (hl : zs.length ≤ 140737488351232) (hz : ∀ n ∈ zs, n < 256)
    (hm : m < 4294967296) (hA : A ≤ 8 * zs.length) (hW : L ≤ 8 * zs.length - A) (hL : L ≤ 32)
    (HC : Hid (∀ w, Calls Try.prog 11 #[.int .u32 (m : Int)] w fun e w' => e = .returned (.int .i64 (L : Nat)) ∧ w' = w)) :
    Calls Try.prog 5 #[v, .int .i64 (A : Int), .int .u32 (m : Int)] w fun e w' => ∃ r, e = .returned (.tuple #[r, .int .i64 0]) ∧ Ow w' w.heap.size r (MB.bt zs A m L) ∧ Below w.heap.size w w' := by
  have HV := hide hv
  obtain ⟨ao, cap, rfl⟩ := hv.len
  obtain ⟨n, hn⟩ : ∃ n, zs.length = n := ⟨_, rfl⟩
  rw [hn] at hA hW hl HV ⊢
  have hd1 : decide ((A : Int) < 0) = false := by simp
  have hd2 : decide (8 * (n : Int) < (A : Int)) = false := by simp; omega
  have hd3 : decide (8 * (n : Int) - (A : Int) < (L : Int)) = false := by simp; omega
  have HN := hide hn
  clear hv hn
  go_enter Try.func5, Try.ntmps5
  go_wp2_with fail
  refine (HC.out _).mono ?_
  rintro e w' ⟨rfl, rfl⟩
  clear HC
  go_wp2_with fail
  refine (copyOf_any _ zs _ HV.out (by rw [HN.out]; exact hl)).mono ?_
  rintro e w1 ⟨r, rfl, hr, hb1⟩
  have HR := hide hr
  clear hr
  go_wp2
  go_loopw [34] (fun i wr => ∃ (k : Nat) (Z : List Nat), k ≤ L ∧ i = .int .i64 k ∧ MB.BR zs A m k Z ∧ Ow wr w'.heap.size r Z ∧ Below w'.heap.size w' wr) (fun i _ => L - (intOf i).toNat)
  case atStart => exact ⟨0, zs, by omega, rfl, MB.BR_0 _ _ _, HR.out, hb1⟩
  case round =>
    obtain ⟨k, Z, hk, rfl, hT, hO, hbel⟩ := hrel
    have hZl := MB.BR_len hT
    have hZ := MB.BR_lt hT hz
    rw [HN.out] at hZl
    have HZl := hide hZl
    have HZ := hide hZ
    clear hZl hZ
    by_cases hlt : k < L
    · by_cases hb : m / 2 ^ k % 2 = 1
      · have hbt := bit_true m k hm hb
        have HT := hide (MB.BR_yes hT hb)
        clear hT hb
        obtain ⟨g, cp, rfl, hg⟩ := hO.some_of (by rw [HZl.out]; omega)
        have hj : (A + k) / 8 < n := by omega
        obtain ⟨hc, hf⟩ := hO.cell (j := (A + k) / 8) (by rw [HZl.out]; exact hj)
        have hO' := hO.set (j := (A + k) / 8) (z := Z.getD ((A + k) / 8) 0 ^^^ 2 ^ ((A + k) % 8)) (by rw [HZl.out]; exact hj)
        have hq := MB.getD_lt HZ.out ((A + k) / 8)
        have hsh := shl8 (A + k)
        have hp8 := MB.pow8_lt (A + k)
        have hfl : MB.flip Z (A + k) = Z.set ((A + k) / 8) (Z.getD ((A + k) / 8) 0 ^^^ 2 ^ ((A + k) % 8)) := rfl
        have hzl := HZl.out
        rw [hzl] at hO' HR ⊢
        rw [hfl] at HT
        generalize Z.getD ((A + k) / 8) 0 = z at *
        generalize 2 ^ ((A + k) % 8) = q at *
        have HX := hide (xor8 z q hq hp8)
        have HO := hide hO'
        clear hO hO' hfl hzl
        go_wp2
        go_region
        rw [HX.out]
        go_wp2
        go_roundw
        case rel => exact ⟨k + 1, Z.set ((A + k) / 8) (z ^^^ q), by omega, by go_num, HT.out, HO.out, (hbel.setCell hg _).drew⟩
        case measure => simp [intOf]; omega
      · have hbf := bit_false m k hm hb
        have HT := hide (MB.BR_no hT hb)
        clear hT hb
        have HO := hide hO
        clear hO
        go_wp2
        go_roundw
        case rel => exact ⟨k + 1, Z, by omega, by go_num, HT.out, HO.out, hbel⟩
        case measure => simp [intOf]; omega
    · go_wp2
      go_ret2
      obtain rfl : k = L := by omega
      exact ⟨r, rfl, by rw [← show Z = _ from hT]; exact hO, hbel⟩
end Go.Proofs.Ytikifggencglkaa
