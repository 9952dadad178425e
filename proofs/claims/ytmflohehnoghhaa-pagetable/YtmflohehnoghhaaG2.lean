import Derived.Test.YtmflohehnoghhaaG1
namespace Go.Proofs.Ytmflohehnoghhaa
open Go.RowKit

/-- no page; no slot -/
def NoPage (v : Int) : Prop := v < 0 ∨ 16 ≤ v
def NoSlot (s : Int) : Prop := s < 0 ∨ 48 ≤ s
set_option maxHeartbeats 400000 in
theorem isPage_no (w : World) (v : Int) (h : NoPage v) :
    Calls Try.prog 32 #[.int .i64 v] w fun e w' => e = .returned (.bool false) ∧ w' = w := by
  by_cases h0 : 0 ≤ v
  · have hd : decide (v < 16) = false := by simp; rcases h with h | h <;> omega
    go_enter Try.func32, Try.ntmps32
    go_wp2
    go_ret
    simp
  · have hd : decide (0 ≤ v) = false := by simp; omega
    go_enter Try.func32, Try.ntmps32
    go_wp2
    go_ret
    simp
set_option maxHeartbeats 400000 in
theorem isPage_yes (w : World) (v : Nat) (h : v < 16) :
    Calls Try.prog 32 #[.int .i64 (v : Int)] w fun e w' => e = .returned (.bool true) ∧ w' = w := by
  have hd : decide ((v : Int) < 16) = true := by simp; omega
  go_enter Try.func32, Try.ntmps32
  go_wp2
  go_ret
  simp
set_option maxHeartbeats 400000 in
theorem isSlot_no (w : World) (v : Int) (h : NoSlot v) :
    Calls Try.prog 33 #[.int .i64 v] w fun e w' => e = .returned (.bool false) ∧ w' = w := by
  by_cases h0 : 0 ≤ v
  · have hd : decide (v < 48) = false := by simp; rcases h with h | h <;> omega
    go_enter Try.func33, Try.ntmps33
    go_wp2
    go_ret
    simp
  · have hd : decide (0 ≤ v) = false := by simp; omega
    go_enter Try.func33, Try.ntmps33
    go_wp2
    go_ret
    simp
set_option maxHeartbeats 400000 in
theorem isSlot_yes (w : World) (v : Nat) (h : v < 48) :
    Calls Try.prog 33 #[.int .i64 (v : Int)] w fun e w' => e = .returned (.bool true) ∧ w' = w := by
  have hd : decide ((v : Int) < 48) = true := by simp; omega
  go_enter Try.func33, Try.ntmps33
  go_wp2
  go_ret
  simp
set_option maxHeartbeats 400000 in
theorem kind_any (w : World) (b : Bool) (s : Nat) :
    Calls Try.prog 34 #[.bool b] w fun e w' => e = .returned (.int .i64 (may (some (s, b)) : Nat)) ∧ w' = w := by
  cases b
  · go_enter Try.func34, Try.ntmps34
    go_wp2
    go_ret
    simp [may]
  · go_enter Try.func34, Try.ntmps34
    go_wp2
    go_ret
    simp [may]
section
variable (w : World) (B : Nat) (m : Nat → E)
set_option maxHeartbeats 400000 in
theorem present_any (v : Nat) (h : Tb w B m) (hv : v < 16) :
    Calls Try.prog 31 #[.pointer (some ⟨B, 0, none⟩), .int .i64 (v : Int)] w fun e w' => e = .returned (.bool (m v).isSome) ∧ w' = w := by
  obtain ⟨c0, c1⟩ := h.c hv
  clear h
  have hm := may_ne (m v)
  generalize (m v).isSome = b at *
  generalize may (m v) = k at *
  cases b
  · obtain rfl : k = 0 := by have : ¬ k ≠ 0 := fun e => by simpa using hm.1 e
                             omega
    clear hm
    go_enter Try.func31, Try.ntmps31
    go_wp2
    go_ret
    simp
  · have hk : ¬ k = 0 := hm.2 rfl
    clear hm
    go_enter Try.func31, Try.ntmps31
    go_wp2
    go_ret
    simp [hk]
set_option maxHeartbeats 400000 in
theorem mapped_no (v : Int) (hv : NoPage v) :
    Calls Try.prog 35 #[.pointer (some ⟨B, 0, none⟩), .int .i64 v] w fun e w' => e = .returned (.int .i64 60) ∧ w' = w := by
  go_enter Try.func35, Try.ntmps35
  go_wp2_with fail
  refine (isPage_no w v hv).mono ?_
  rintro e w1 ⟨rfl, rfl⟩
  go_wp2
  go_ret
  simp
set_option maxHeartbeats 400000 in
theorem mapped_un (v : Nat) (h : Tb w B m) (hv : v < 16) (hm : m v = none) :
    Calls Try.prog 35 #[.pointer (some ⟨B, 0, none⟩), .int .i64 (v : Int)] w fun e w' => e = .returned (.int .i64 62) ∧ w' = w := by
  go_enter Try.func35, Try.ntmps35
  go_wp2_with fail
  refine (isPage_yes w v hv).mono ?_
  rintro e w1 ⟨rfl, rfl⟩
  have hp := present_any w1 B m v h hv
  rw [hm] at hp
  go_wp2_with fail
  refine hp.mono ?_
  rintro e w1 ⟨rfl, rfl⟩
  go_wp2
  go_ret
  simp
set_option maxHeartbeats 400000 in
theorem mapped_yes (v : Nat) (h : Tb w B m) (hv : v < 16) (x : Nat × Bool) (hm : m v = some x) :
    Calls Try.prog 35 #[.pointer (some ⟨B, 0, none⟩), .int .i64 (v : Int)] w fun e w' => e = .returned (.int .i64 0) ∧ w' = w := by
  go_enter Try.func35, Try.ntmps35
  go_wp2_with fail
  refine (isPage_yes w v hv).mono ?_
  rintro e w1 ⟨rfl, rfl⟩
  have hp := present_any w1 B m v h hv
  rw [hm] at hp
  go_wp2_with fail
  refine hp.mono ?_
  rintro e w1 ⟨rfl, rfl⟩
  go_wp2
  go_ret
  simp
/-- what a call that changes the table at B leaves -/
def TGo (w w' : World) (B : Nat) (m' : Nat → E) : Prop := Tb w' B m' ∧ Mod (fun b => b = B) w w'
set_option maxHeartbeats 400000 in
theorem map_page (v s : Int) (b : Bool) (hv : NoPage v) :
    Calls Try.prog 17 #[.pointer (some ⟨B, 0, none⟩), .int .i64 v, .int .i64 s, .bool b] w fun e w' => e = .returned (.int .i64 60) ∧ w' = w := by
  go_enter Try.func17, Try.ntmps17
  go_wp2_with fail
  refine (isPage_no w v hv).mono ?_
  rintro e w1 ⟨rfl, rfl⟩
  go_wp2
  go_ret
  simp
set_option maxHeartbeats 400000 in
theorem map_slot (v : Nat) (s : Int) (b : Bool) (hv : v < 16) (hs : NoSlot s) :
    Calls Try.prog 17 #[.pointer (some ⟨B, 0, none⟩), .int .i64 (v : Int), .int .i64 s, .bool b] w fun e w' => e = .returned (.int .i64 30) ∧ w' = w := by
  go_enter Try.func17, Try.ntmps17
  go_wp2_with fail
  refine (isPage_yes w v hv).mono ?_
  rintro e w1 ⟨rfl, rfl⟩
  go_wp2_with fail
  refine (isSlot_no w1 s hs).mono ?_
  rintro e w1 ⟨rfl, rfl⟩
  go_wp2
  go_ret
  simp
set_option maxHeartbeats 400000 in
theorem map_there (v s : Nat) (b : Bool) (h : Tb w B m) (hv : v < 16) (hs : s < 48) (x : Nat × Bool) (hm : m v = some x) :
    Calls Try.prog 17 #[.pointer (some ⟨B, 0, none⟩), .int .i64 (v : Int), .int .i64 (s : Int), .bool b] w fun e w' => e = .returned (.int .i64 61) ∧ w' = w := by
  go_enter Try.func17, Try.ntmps17
  go_wp2_with fail
  refine (isPage_yes w v hv).mono ?_
  rintro e w1 ⟨rfl, rfl⟩
  go_wp2_with fail
  refine (isSlot_yes w1 s hs).mono ?_
  rintro e w1 ⟨rfl, rfl⟩
  have hp := present_any w1 B m v h hv
  rw [hm] at hp
  go_wp2_with fail
  refine hp.mono ?_
  rintro e w1 ⟨rfl, rfl⟩
  go_wp2
  go_ret
  simp
end
end Go.Proofs.Ytmflohehnoghhaa
