import Derived.Test.YtikifggencglkaaW1
namespace Go.Proofs.Ytikifggencglkaa
open Go.RowKit

def arr (m : Nat → Nat) : Array Value := ((List.range 32).map fun i => Value.int .u32 (m i : Nat)).toArray
theorem arr_size (m : Nat → Nat) : (arr m).size = 32 := by simp [arr]
theorem arr_get (m : Nat → Nat) (i : Nat) (h : i < 32) : (arr m)[i]? = some (.int .u32 (m i : Nat)) := by simp [arr, h]
theorem arr_cell (m : Nat → Nat) (w : World) (i : Nat) (h : i < 32) : (w.alloc (Obj.cells (arr m) 35)).cell? ⟨w.heap.size, i, none⟩ = some (.int .u32 (m i : Nat)) := by
  simp [arr_get m i h, go_sem]

theorem shr_and (s k : Nat) (hs : s < 4294967296) : bits .and .u32 ((s : Int) / 2 ^ k) 1 = ((s / 2 ^ k % 2 : Nat) : Int) := by
  have e : ((s : Int) / 2 ^ k) = ((s / 2 ^ k : Nat) : Int) := by simp
  rw [e]
  exact and1 _ (Nat.lt_of_le_of_lt (Nat.div_le_self _ _) hs)
theorem bit_true (s k : Nat) (hs : s < 4294967296) (h : s / 2 ^ k % 2 = 1) : (bits .and .u32 ((s : Int) / 2 ^ k) 1 == 1) = true := by
  rw [shr_and s k hs, h]; rfl
theorem bit_false (s k : Nat) (hs : s < 4294967296) (h : ¬ s / 2 ^ k % 2 = 1) : (bits .and .u32 ((s : Int) / 2 ^ k) 1 == 1) = false := by
  rw [shr_and s k hs, show s / 2 ^ k % 2 = 0 by omega]; rfl
set_option maxHeartbeats 400000 in
theorem of_any (m : Nat → Nat) (s : Nat) (w : World) (hm : ∀ i, i < 32 → m i < 4294967296) (hs : s < 4294967296) :
    Calls Try.prog 19 #[.agg (arr m), .int .u32 (s : Int)] w fun e w' => e = .returned (.int .u32 (M.linAll m s : Nat)) ∧ Below w.heap.size w w' := by
  go_enter Try.func19, Try.ntmps19
  go_wp2
  go_loop [5, 7] (fun o i => ∃ k O : Nat, k ≤ 32 ∧ i = .int .i64 k ∧ o = .int .u32 O ∧ M.LR m s k O) (fun _ i => 32 - (intOf i).toNat)
  case atStart => exact ⟨0, 0, by omega, rfl, rfl, rfl⟩
  case round =>
    obtain ⟨k, O, hk, rfl, rfl, hT⟩ := hrel
    have hO := M.LR_lt hT hk hm
    by_cases hlt : k < 32
    · have hc := arr_cell m w k hlt
      have hmk := hm k hlt
      by_cases hb : s / 2 ^ k % 2 = 1
      · have hb' := bit_true s k hs hb
        have HT := hide (M.LR_yes hT hb)
        clear hb
        go_wp2
        go_round
        case rel => exact ⟨k + 1, O ^^^ m k, by omega, by go_num, by rw [xorN O (m k) hO hmk], unhide HT⟩
        case measure => simp [intOf]; omega
      · have hb' := bit_false s k hs hb
        have HT := hide (M.LR_no hT hb)
        clear hb
        go_wp2
        go_round
        case rel => exact ⟨k + 1, O, by omega, by go_num, rfl, unhide HT⟩
        case measure => simp [intOf]; omega
    · go_wp2
      go_ret
      obtain rfl : k = 32 := by omega
      exact ⟨ret_int (by rw [M.LR_end hT]), (Below.refl _ _).alloc (Nat.le_refl _) _⟩

end Go.Proofs.Ytikifggencglkaa
