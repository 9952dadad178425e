import Derived.Test.YtmflohehnoghhaaPE
namespace Go.Proofs.Ytmflohehnoghhaa
open Go.RowKit

section
variable {w : World} {R : Nat} {L : List Mp} {m : Nat → E} {F : Nat → Prop}
set_option maxHeartbeats 800000 in
theorem transR_no (a : Nat) (b : Bool) (ha : 512 ≤ a) (ha2 : a < 4294967296) : Calls Try.prog 29 #[rp' R, .int .u32 (a : Int), .bool b] w fun e w' => e = .returned (.tuple #[.int .i64 0, .int .i64 0, .int .i64 60]) ∧ w' = w := by
  have d1 : decide (512 ≤ (a : Int)) = true := by simp; omega
  go_enter Try.func29, Try.ntmps29
  go_wp2
  go_ret3
  exact ⟨rfl, rfl⟩
set_option maxHeartbeats 800000 in
theorem transR_un (h : RtA R L w F) (hg : Ag m L) (a : Nat) (b : Bool) (ha : a < 512) (hm : m (a / 32) = none) : Calls Try.prog 29 #[rp' R, .int .u32 (a : Int), .bool b] w fun e w' => e = .returned (.tuple #[.int .i64 0, .int .i64 0, .int .i64 62]) ∧ w' = w := by
  obtain ⟨va, hR, _⟩ := h
  obtain ⟨q, hq⟩ : ∃ q, a / 32 = q := ⟨_, rfl⟩
  rw [hq] at hm
  have hn : q < 16 := by omega
  have hqi : (a : Int) / 32 = (q : Int) := by omega
  have hqt : (a : Int).tdiv 32 = (q : Int) := by rw [Int.tdiv_eq_ediv_of_nonneg (by omega)]; exact hqi
  have hw0 : IntKind.i64.wrap (a : Int) = (a : Int) := by rw [IntKind.wrap_i64]; omega
  have hw1 : IntKind.i64.wrap (q : Int) = (q : Int) := by rw [IntKind.wrap_i64]; omega
  have d1 : decide (512 ≤ (a : Int)) = false := by simp; omega
  have c0 := hR.cell
  have HA := hide (at_miss hR.row (by have := hg.len; omega) (hg.no hn hm))
  have d9 : decide ((-1 : Int) < 0) = true := rfl
  clear hR hg hq
  go_enter Try.func29, Try.ntmps29
  go_wp2_with fail
  refine HA.out.mono ?_
  rintro e w1 ⟨rfl, hw9⟩
  rw [hw9]
  clear hw9 w1 HA
  go_wp2
  go_ret3
  exact ⟨rfl, rfl⟩
set_option maxHeartbeats 800000 in
theorem transR_ro (h : RtA R L w F) (hg : Ag m L) (a s : Nat) (ha : a < 512) (hm : m (a / 32) = some (s, false)) : Calls Try.prog 29 #[rp' R, .int .u32 (a : Int), .bool true] w fun e w' => e = .returned (.tuple #[.int .i64 0, .int .i64 0, .int .i64 63]) ∧ w' = w := by
  obtain ⟨va, hR, _⟩ := h
  obtain ⟨q, hq⟩ : ∃ q, a / 32 = q := ⟨_, rfl⟩
  rw [hq] at hm
  have hn : q < 16 := by omega
  have hqi : (a : Int) / 32 = (q : Int) := by omega
  have hqt : (a : Int).tdiv 32 = (q : Int) := by rw [Int.tdiv_eq_ediv_of_nonneg (by omega)]; exact hqi
  have hw0 : IntKind.i64.wrap (a : Int) = (a : Int) := by rw [IntKind.wrap_i64]; omega
  have hw1 : IntKind.i64.wrap (q : Int) = (q : Int) := by rw [IntKind.wrap_i64]; omega
  have d1 : decide (512 ≤ (a : Int)) = false := by simp; omega
  obtain ⟨i, hi⟩ := hg.hit hn hm
  have hil : i < L.length := (List.getElem?_eq_some_iff.1 hi).1
  have HA := hide (at_hit hR.row (by have := hg.len; omega) hg.ne hi (v := (q : Int)) rfl)
  obtain ⟨g, cp, hva, -, -, -⟩ := hR.row.some_of (by omega)
  obtain ⟨t, ht⟩ : ∃ t, L.length = t := ⟨_, rfl⟩
  rw [ht] at hva hil
  subst hva
  have c0 := hR.cell
  obtain ⟨q0, q1, q2⟩ := hR.row.cell hi
  have d3 : decide ((i : Int) < 0) = false := by simp
  have hil2 : (i : Int) < (t : Int) := by omega
  clear hR hg hq hi
  go_enter Try.func29, Try.ntmps29
  go_wp2_with fail
  refine HA.out.mono ?_
  rintro e w1 ⟨rfl, hw9⟩
  rw [hw9]
  clear hw9 w1 HA
  go_wp2
  go_ret3
  exact ⟨rfl, rfl⟩
set_option maxHeartbeats 1600000 in
theorem transR_ok (h : RtA R L w F) (hg : Ag m L) (a s : Nat) (b c : Bool) (ha : a < 512) (hm : m (a / 32) = some (s, c)) (hb : b = true → c = true) : Calls Try.prog 29 #[rp' R, .int .u32 (a : Int), .bool b] w fun e w' => e = .returned (.tuple #[.int .i64 (s : Int), .int .i64 ((a % 32 : Nat) : Int), .int .i64 0]) ∧ w' = w := by
  obtain ⟨va, hR, _⟩ := h
  obtain ⟨q, hq⟩ : ∃ q, a / 32 = q := ⟨_, rfl⟩
  rw [hq] at hm
  have hn : q < 16 := by omega
  have hqi : (a : Int) / 32 = (q : Int) := by omega
  have hqt : (a : Int).tdiv 32 = (q : Int) := by rw [Int.tdiv_eq_ediv_of_nonneg (by omega)]; exact hqi
  have hw0 : IntKind.i64.wrap (a : Int) = (a : Int) := by rw [IntKind.wrap_i64]; omega
  have hw1 : IntKind.i64.wrap (q : Int) = (q : Int) := by rw [IntKind.wrap_i64]; omega
  have hw2 : IntKind.i64.wrap ((q : Int) * 32) = (q : Int) * 32 := by rw [IntKind.wrap_i64]; omega
  have hw3 : IntKind.i64.wrap ((a : Int) - (q : Int) * 32) = ((a % 32 : Nat) : Int) := by rw [IntKind.wrap_i64]; omega
  have d1 : decide (512 ≤ (a : Int)) = false := by simp; omega
  obtain ⟨i, hi⟩ := hg.hit hn hm
  have hil : i < L.length := (List.getElem?_eq_some_iff.1 hi).1
  have HA := hide (at_hit hR.row (by have := hg.len; omega) hg.ne hi (v := (q : Int)) rfl)
  obtain ⟨g, cp, hva, -, -, -⟩ := hR.row.some_of (by omega)
  obtain ⟨t, ht⟩ : ∃ t, L.length = t := ⟨_, rfl⟩
  rw [ht] at hva hil
  subst hva
  have c0 := hR.cell
  obtain ⟨q0, q1, q2⟩ := hR.row.cell hi
  have d3 : decide ((i : Int) < 0) = false := by simp
  have hil2 : (i : Int) < (t : Int) := by omega
  generalize a % 32 = r at *
  clear hR hg hq hi
  cases b with
  | false =>
    go_enter Try.func29, Try.ntmps29
    go_wp2_with fail
    refine HA.out.mono ?_
    rintro e w1 ⟨rfl, hw9⟩
    rw [hw9]
    clear hw9 w1 HA
    go_wp2
    go_ret3
    exact ⟨rfl, rfl⟩
  | true =>
    obtain rfl := hb rfl
    go_enter Try.func29, Try.ntmps29
    go_wp2_with fail
    refine HA.out.mono ?_
    rintro e w1 ⟨rfl, hw9⟩
    rw [hw9]
    clear hw9 w1 HA
    go_wp2
    go_ret3
    exact ⟨rfl, rfl⟩
end
end Go.Proofs.Ytmflohehnoghhaa
