import Derived.Test.YtikifggencglkaaW1
import Derived.Laws.MathBits
namespace Go.Proofs.Ytikifggencglkaa
open Go.RowKit
theorem w64 (n : Int) (h0 : 0 ≤ n) (h1 : n ≤ 1000) : wrap64 n = n := IntWalk.wrap64_in n ⟨by omega, by omega⟩
theorem bl24 (x : Nat) (h : 16777216 ≤ x) : bitLen x = 24 + bitLen (x / 65536 / 256) := by
  have := bitLen_shift x 24 (by omega)
  rw [this, Nat.div_div_eq_div_mul]
theorem bl16 (x : Nat) (h : 65536 ≤ x) : bitLen x = 16 + bitLen (x / 65536) := bitLen_shift x 16 (by omega)
theorem bl8 (x : Nat) (h : 256 ≤ x) : bitLen x = 8 + bitLen (x / 256) := bitLen_shift x 8 (by omega)
set_option maxHeartbeats 4000000 in
set_option maxRecDepth 100000 in
theorem len32_any (x : Int) (w : World) (h0 : 0 ≤ x) (h1 : x ≤ 4294967295) :
    Calls Try.prog 11 #[.int .u32 x] w fun e w' => e = .returned (.int .i64 (bitLen x.toNat : Nat)) ∧ w' = w := by
  go_enter Try.func11, Try.ntmps11
  go_wp2
  · go_ret
    refine ⟨ret_int ?_, rfl⟩
    have l := bitLen_le8 (x / 65536 / 256).toNat (by omega)
    have e := bl24 x.toNat (by omega)
    have e' : x.toNat / 65536 / 256 = (x / 65536 / 256).toNat := by omega
    rw [e'] at e
    rw [len8tab_get, e, w64 (bitLen (x / 65536 / 256).toNat : Nat) (by omega) (by omega), w64 _ (by omega) (by omega)]
    omega
  · go_ret
    refine ⟨ret_int ?_, rfl⟩
    have l := bitLen_le8 (x / 65536).toNat (by omega)
    have e := bl16 x.toNat (by omega)
    have e' : x.toNat / 65536 = (x / 65536).toNat := by omega
    rw [e'] at e
    rw [len8tab_get, e, w64 (bitLen (x / 65536).toNat : Nat) (by omega) (by omega), w64 _ (by omega) (by omega)]
    omega
  · go_ret
    refine ⟨ret_int ?_, rfl⟩
    have l := bitLen_le8 (x / 256).toNat (by omega)
    have e := bl8 x.toNat (by omega)
    have e' : x.toNat / 256 = (x / 256).toNat := by omega
    rw [e'] at e
    rw [len8tab_get, e, w64 (bitLen (x / 256).toNat : Nat) (by omega) (by omega), w64 _ (by omega) (by omega)]
    omega
  · go_ret
    refine ⟨ret_int ?_, rfl⟩
    have l := bitLen_le8 x.toNat (by omega)
    rw [len8tab_get, w64 (bitLen x.toNat : Nat) (by omega) (by omega), w64 _ (by omega) (by omega)]
theorem bl40 (x : Nat) (h : 1099511627776 ≤ x) : bitLen x = 40 + bitLen (x / 4294967296 / 256) := by
  have := bitLen_shift x 40 (by omega)
  rw [this, Nat.div_div_eq_div_mul]
theorem bl32 (x : Nat) (h : 4294967296 ≤ x) : bitLen x = 32 + bitLen (x / 4294967296) := bitLen_shift x 32 (by omega)
set_option maxHeartbeats 4000000 in
set_option maxRecDepth 100000 in
theorem len64_any (x : Int) (w : World) (h0 : 0 ≤ x) (h1 : x ≤ 1099511627776) :
    Calls Try.prog 21 #[.int .u64 x] w fun e w' => e = .returned (.int .i64 (bitLen x.toNat : Nat)) ∧ w' = w := by
  go_enter Try.func21, Try.ntmps21
  go_wp2
  · go_ret
    refine ⟨ret_int ?_, rfl⟩
    have l := bitLen_le8 (x / 4294967296 / 256).toNat (by omega)
    have e := bl40 x.toNat (by omega)
    have e' : x.toNat / 4294967296 / 256 = (x / 4294967296 / 256).toNat := by omega
    rw [e'] at e
    rw [len8tab_get, e, w64 (bitLen (x / 4294967296 / 256).toNat : Nat) (by omega) (by omega), w64 _ (by omega) (by omega)]
    omega
  · go_ret
    refine ⟨ret_int ?_, rfl⟩
    have l := bitLen_le8 (x / 4294967296).toNat (by omega)
    have e := bl32 x.toNat (by omega)
    have e' : x.toNat / 4294967296 = (x / 4294967296).toNat := by omega
    rw [e'] at e
    rw [len8tab_get, e, w64 (bitLen (x / 4294967296).toNat : Nat) (by omega) (by omega), w64 _ (by omega) (by omega)]
    omega
  · go_ret
    refine ⟨ret_int ?_, rfl⟩
    have l := bitLen_le8 (x / 65536 / 256).toNat (by omega)
    have e := bl24 x.toNat (by omega)
    have e' : x.toNat / 65536 / 256 = (x / 65536 / 256).toNat := by omega
    rw [e'] at e
    rw [len8tab_get, e, w64 (bitLen (x / 65536 / 256).toNat : Nat) (by omega) (by omega), w64 _ (by omega) (by omega)]
    omega
  · go_ret
    refine ⟨ret_int ?_, rfl⟩
    have l := bitLen_le8 (x / 65536).toNat (by omega)
    have e := bl16 x.toNat (by omega)
    have e' : x.toNat / 65536 = (x / 65536).toNat := by omega
    rw [e'] at e
    rw [len8tab_get, e, w64 (bitLen (x / 65536).toNat : Nat) (by omega) (by omega), w64 _ (by omega) (by omega)]
    omega
  · go_ret
    refine ⟨ret_int ?_, rfl⟩
    have l := bitLen_le8 (x / 256).toNat (by omega)
    have e := bl8 x.toNat (by omega)
    have e' : x.toNat / 256 = (x / 256).toNat := by omega
    rw [e'] at e
    rw [len8tab_get, e, w64 (bitLen (x / 256).toNat : Nat) (by omega) (by omega), w64 _ (by omega) (by omega)]
    omega
  · go_ret
    refine ⟨ret_int ?_, rfl⟩
    have l := bitLen_le8 x.toNat (by omega)
    rw [len8tab_get, w64 (bitLen x.toNat : Nat) (by omega) (by omega), w64 _ (by omega) (by omega)]

set_option maxHeartbeats 400000 in
theorem len_any (n : Nat) (w : World) (h1 : n ≤ 1099511627776) :
    Calls Try.prog 18 #[.int .u64 (n : Int)] w fun e w' => e = .returned (.int .i64 (bitLen n : Nat)) ∧ w' = w := by
  have c : ∀ w, Calls Try.prog 21 #[.int .u64 (n : Int)] w fun e w' => e = .returned (.int .i64 (bitLen n : Nat)) ∧ w' = w := fun w => by
    have := len64_any n w (by omega) (by omega)
    rwa [Int.toNat_natCast] at this
  have C : Hid _ := c
  clear c
  go_enter Try.func18, Try.ntmps18
  go_wp2_with (go_at_call 21; refine (C.out _).mono ?_; rintro e w' ⟨rfl, rfl⟩)
  go_ret
  exact ⟨rfl, rfl⟩
end Go.Proofs.Ytikifggencglkaa
