import Derived.Test.YtmdcmpkjhflgpaaH1
namespace Go.Proofs.Ytmdcmpkjhflgpaa
open Go.RowKit

set_option maxHeartbeats 400000 in
theorem inUse_yes (w : World) (B G n : Nat) (m : Nat → Fr) (k : Nat) (h : MemAt w B G n m) (hk : k < n) (hu : 0 < (m k).h) :
    Calls Try.prog 24 #[.pointer (some ⟨B, 0, none⟩), .int .i64 (k : Int)] w fun e w' => e = .returned (.bool true) ∧ w' = w := by
  have c0 := h.hd
  obtain ⟨_, c1, _, _⟩ := h.c hk
  clear h
  go_enter Try.func24, Try.ntmps24
  go_wp2
  go_ret
  simp
set_option maxHeartbeats 400000 in
theorem inUse_no (w : World) (B G n : Nat) (m : Nat → Fr) (f : Int) (h : MemAt w B G n m) (hu : ∀ k : Nat, f = k → k < n → (m k).h = 0) :
    Calls Try.prog 24 #[.pointer (some ⟨B, 0, none⟩), .int .i64 f] w fun e w' => e = .returned (.bool false) ∧ w' = w := by
  have c0 := h.hd
  by_cases h0 : 0 ≤ f
  · obtain ⟨k, rfl⟩ := Int.eq_ofNat_of_zero_le h0
    by_cases hk : k < n
    · obtain ⟨_, c1, _, _⟩ := h.c hk
      rw [hu k rfl hk] at c1
      clear h hu
      go_enter Try.func24, Try.ntmps24
      go_wp2
      go_ret
      simp
    · clear h hu
      have hd : decide ((k : Int) < (n : Int)) = false := by simp; omega
      go_enter Try.func24, Try.ntmps24
      go_wp2
      go_ret
      simp
  · clear h hu
    go_enter Try.func24, Try.ntmps24
    go_wp2
    go_ret
    simp
set_option maxHeartbeats 400000 in
theorem noSerial_yes (w : World) (z : Int) (h : z < 1 ∨ 4611686018427387903 < z) :
    Calls Try.prog 39 #[.int .i64 z] w fun e w' => e = .returned (.bool true) ∧ w' = w := by
  by_cases h0 : z < 1
  · go_enter Try.func39, Try.ntmps39
    go_wp2
    go_ret
    simp
  · have h1 : 4611686018427387903 < z := by omega
    go_enter Try.func39, Try.ntmps39
    go_wp2
    go_ret
    simp
set_option maxHeartbeats 400000 in
theorem noSerial_no (w : World) (z : Int) (h : 1 ≤ z) (h2 : z ≤ 4611686018427387903) :
    Calls Try.prog 39 #[.int .i64 z] w fun e w' => e = .returned (.bool false) ∧ w' = w := by
  have d1 : decide (z < 1) = false := by simp; omega
  have d2 : decide (4611686018427387903 < z) = false := by simp; omega
  go_enter Try.func39, Try.ntmps39
  go_wp2
  go_ret
  simp
end Go.Proofs.Ytmdcmpkjhflgpaa
