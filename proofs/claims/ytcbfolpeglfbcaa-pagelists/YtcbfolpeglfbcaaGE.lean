import Derived.Test.YtcbfolpeglfbcaaGD
namespace Go.Proofs.Ytcbfolpeglfbcaa
open Go.RowKit
section
variable (w : World) (m : Nat → E) (o : Ost)
theorem bx2 (w : World) (m : Nat → E) (o : Ost) : Sn ((w.alloc (.cells (sc m).toArray 35)).alloc (.cells o.cells.toArray 31)) w.heap.size m ∧ Ob ((w.alloc (.cells (sc m).toArray 35)).alloc (.cells o.cells.toArray 31)) (w.heap.size + 1) o ∧ Below w.heap.size w ((w.alloc (.cells (sc m).toArray 35)).alloc (.cells o.cells.toArray 31)) := by
  have b1 : Below w.heap.size w (w.alloc (.cells (sc m).toArray 35)) := (Below.refl _ _).alloc (Nat.le_refl _) _
  have n0 := Sn.new w m
  have b2 : Below (w.alloc (.cells (sc m).toArray 35)).heap.size (w.alloc (.cells (sc m).toArray 35)) ((w.alloc (.cells (sc m).toArray 35)).alloc (.cells o.cells.toArray 31)) := (Below.refl _ _).alloc (Nat.le_refl _) _
  have n1 := Ob.new (w.alloc (.cells (sc m).toArray 35)) o
  have e1 : (w.alloc (.cells (sc m).toArray 35)).heap.size = w.heap.size + 1 := by simp
  rw [e1] at n1
  exact ⟨n0.below b2, n1, b1.trans (b2.mono b1.size)⟩
set_option maxRecDepth 100000 in
set_option maxHeartbeats 800000 in
theorem must_6 (hk : o.kd = 6) :
    Calls Try.prog 16 #[.agg (sc m).toArray, .agg o.cells.toArray, .int .i64 0] w fun e w' => e = .returned (.bool true) ∧ Below w.heap.size w w' := by
  obtain ⟨hS, hO, hB⟩ := bx2 w m o
  go_enter Try.func16, Try.ntmps16
  go_upto_region 1 with fail
  generalize (w.alloc (.cells (sc m).toArray 35)).alloc (.cells o.cells.toArray 31) = w0 at *
  have o0 : w0.cell? ⟨w.heap.size + 1, 0, none⟩ = some (.int .i64 o.kd) := hO.get rfl
  have o2 : w0.cell? ⟨w.heap.size + 1, 2, none⟩ = some (.int .i64 o.v) := hO.get rfl
  have o3 : w0.cell? ⟨w.heap.size + 1, 3, none⟩ = some (.int .i64 o.s) := hO.get rfl
  have HB := hide hB
  rw [hk] at o0
  clear hS hO hB
  go_wp2
  go_ret
  exact ⟨rfl, HB.out⟩
set_option maxRecDepth 100000 in
set_option maxHeartbeats 800000 in
theorem must_page (h6 : ¬ o.kd = 6) (hv : NoPage o.v) :
    Calls Try.prog 16 #[.agg (sc m).toArray, .agg o.cells.toArray, .int .i64 60] w fun e w' => e = .returned (.bool true) ∧ Below w.heap.size w w' := by
  obtain ⟨hS, hO, hB⟩ := bx2 w m o
  go_enter Try.func16, Try.ntmps16
  go_upto_region 1 with fail
  generalize (w.alloc (.cells (sc m).toArray 35)).alloc (.cells o.cells.toArray 31) = w0 at *
  have o0 : w0.cell? ⟨w.heap.size + 1, 0, none⟩ = some (.int .i64 o.kd) := hO.get rfl
  have o2 : w0.cell? ⟨w.heap.size + 1, 2, none⟩ = some (.int .i64 o.v) := hO.get rfl
  have o3 : w0.cell? ⟨w.heap.size + 1, 3, none⟩ = some (.int .i64 o.s) := hO.get rfl
  have HB := hide hB
  have k6 : (o.kd == 6) = false := by simpa using h6
  clear h6
  unfold NoPage at hv
  have hx : o.v < 0 ∨ (¬ o.v < 0 ∧ 16 ≤ o.v) := by omega
  clear hS hO hB
  rcases hx with hx | ⟨hx, hx2⟩
  · go_wp2
    go_ret
    exact ⟨rfl, HB.out⟩
  · go_wp2
    go_ret
    exact ⟨rfl, HB.out⟩
set_option maxRecDepth 100000 in
set_option maxHeartbeats 800000 in
theorem must_slot (hk : o.kd = 1) (v : Nat) (hv : o.v = v) (hl : v < 16) (hs : NoSlot o.s) :
    Calls Try.prog 16 #[.agg (sc m).toArray, .agg o.cells.toArray, .int .i64 30] w fun e w' => e = .returned (.bool true) ∧ Below w.heap.size w w' := by
  obtain ⟨hS, hO, hB⟩ := bx2 w m o
  go_enter Try.func16, Try.ntmps16
  go_upto_region 1 with fail
  generalize (w.alloc (.cells (sc m).toArray 35)).alloc (.cells o.cells.toArray 31) = w0 at *
  have o0 : w0.cell? ⟨w.heap.size + 1, 0, none⟩ = some (.int .i64 o.kd) := hO.get rfl
  have o2 : w0.cell? ⟨w.heap.size + 1, 2, none⟩ = some (.int .i64 o.v) := hO.get rfl
  have o3 : w0.cell? ⟨w.heap.size + 1, 3, none⟩ = some (.int .i64 o.s) := hO.get rfl
  have HB := hide hB
  rw [hk] at o0
  have c0 := (hS.c hl).1
  generalize (m v).isSome = b at *
  have d3 : decide ((v : Int) < 0) = false := by simp
  have d4 : decide (16 ≤ (v : Int)) = false := by simp; omega
  rw [hv] at o2
  unfold NoSlot at hs
  have hx : o.s < 0 ∨ (¬ o.s < 0 ∧ 48 ≤ o.s) := by omega
  clear hS hO hB
  rcases hx with hx | ⟨hx, hx2⟩
  · go_wp2
    go_ret
    exact ⟨rfl, HB.out⟩
  · go_wp2
    go_ret
    exact ⟨rfl, HB.out⟩
set_option maxRecDepth 100000 in
set_option maxHeartbeats 800000 in
theorem must_there (hk : o.kd = 1) (v s : Nat) (hv : o.v = v) (hl : v < 16) (hs : o.s = s) (hsl : s < 48) (x : Nat × Bool) (hm : m v = some x) :
    Calls Try.prog 16 #[.agg (sc m).toArray, .agg o.cells.toArray, .int .i64 61] w fun e w' => e = .returned (.bool true) ∧ Below w.heap.size w w' := by
  obtain ⟨hS, hO, hB⟩ := bx2 w m o
  go_enter Try.func16, Try.ntmps16
  go_upto_region 1 with fail
  generalize (w.alloc (.cells (sc m).toArray 35)).alloc (.cells o.cells.toArray 31) = w0 at *
  have o0 : w0.cell? ⟨w.heap.size + 1, 0, none⟩ = some (.int .i64 o.kd) := hO.get rfl
  have o2 : w0.cell? ⟨w.heap.size + 1, 2, none⟩ = some (.int .i64 o.v) := hO.get rfl
  have o3 : w0.cell? ⟨w.heap.size + 1, 3, none⟩ = some (.int .i64 o.s) := hO.get rfl
  have HB := hide hB
  have hvl : v < 16 := hl
  have c0 := (hS.c hvl).1
  rw [hm] at c0
  have d3 : decide ((v : Int) < 0) = false := by simp
  have d4 : decide (16 ≤ (v : Int)) = false := by simp; omega
  rw [hv] at o2
  rw [hk] at o0
  rw [hs] at o3
  have d5 : decide ((s : Int) < 0) = false := by simp
  have d6 : decide (48 ≤ (s : Int)) = false := by simp; omega
  have c0' : w0.cell? ⟨w.heap.size, v * 3, none⟩ = some (.bool true) := c0
  clear c0 hm
  clear hS hO hB
  go_wp2
  go_ret
  exact ⟨rfl, HB.out⟩
set_option maxRecDepth 100000 in
set_option maxHeartbeats 800000 in
theorem must_free (hk : o.kd = 1) (v s : Nat) (hv : o.v = v) (hl : v < 16) (hs : o.s = s) (hsl : s < 48) (hm : m v = none) :
    Calls Try.prog 16 #[.agg (sc m).toArray, .agg o.cells.toArray, .int .i64 0] w fun e w' => e = .returned (.bool true) ∧ Below w.heap.size w w' := by
  obtain ⟨hS, hO, hB⟩ := bx2 w m o
  go_enter Try.func16, Try.ntmps16
  go_upto_region 1 with fail
  generalize (w.alloc (.cells (sc m).toArray 35)).alloc (.cells o.cells.toArray 31) = w0 at *
  have o0 : w0.cell? ⟨w.heap.size + 1, 0, none⟩ = some (.int .i64 o.kd) := hO.get rfl
  have o2 : w0.cell? ⟨w.heap.size + 1, 2, none⟩ = some (.int .i64 o.v) := hO.get rfl
  have o3 : w0.cell? ⟨w.heap.size + 1, 3, none⟩ = some (.int .i64 o.s) := hO.get rfl
  have HB := hide hB
  have hvl : v < 16 := hl
  have c0 := (hS.c hvl).1
  rw [hm] at c0
  have d3 : decide ((v : Int) < 0) = false := by simp
  have d4 : decide (16 ≤ (v : Int)) = false := by simp; omega
  rw [hv] at o2
  rw [hk] at o0
  rw [hs] at o3
  have d5 : decide ((s : Int) < 0) = false := by simp
  have d6 : decide (48 ≤ (s : Int)) = false := by simp; omega
  have c0' : w0.cell? ⟨w.heap.size, v * 3, none⟩ = some (.bool false) := c0
  clear c0 hm
  clear hS hO hB
  go_wp2
  go_ret
  exact ⟨rfl, HB.out⟩
set_option maxRecDepth 100000 in
set_option maxHeartbeats 800000 in
theorem must_un (h6 : ¬ o.kd = 6) (h1 : ¬ o.kd = 1) (v : Nat) (hv : o.v = v) (hl : v < 16) (hm : m v = none) :
    Calls Try.prog 16 #[.agg (sc m).toArray, .agg o.cells.toArray, .int .i64 62] w fun e w' => e = .returned (.bool true) ∧ Below w.heap.size w w' := by
  obtain ⟨hS, hO, hB⟩ := bx2 w m o
  go_enter Try.func16, Try.ntmps16
  go_upto_region 1 with fail
  generalize (w.alloc (.cells (sc m).toArray 35)).alloc (.cells o.cells.toArray 31) = w0 at *
  have o0 : w0.cell? ⟨w.heap.size + 1, 0, none⟩ = some (.int .i64 o.kd) := hO.get rfl
  have o2 : w0.cell? ⟨w.heap.size + 1, 2, none⟩ = some (.int .i64 o.v) := hO.get rfl
  have o3 : w0.cell? ⟨w.heap.size + 1, 3, none⟩ = some (.int .i64 o.s) := hO.get rfl
  have HB := hide hB
  have hvl : v < 16 := hl
  have c0 := (hS.c hvl).1
  rw [hm] at c0
  have d3 : decide ((v : Int) < 0) = false := by simp
  have d4 : decide (16 ≤ (v : Int)) = false := by simp; omega
  rw [hv] at o2
  have k6 : (o.kd == 6) = false := by simpa using h6
  have k1 : (o.kd == 1) = false := by simpa using h1
  clear h6 h1
  have c0' : w0.cell? ⟨w.heap.size, v * 3, none⟩ = some (.bool false) := c0
  clear c0 hm
  clear hS hO hB
  go_wp2
  go_ret
  exact ⟨rfl, HB.out⟩
set_option maxRecDepth 100000 in
set_option maxHeartbeats 800000 in
theorem must_on (h6 : ¬ o.kd = 6) (h1 : ¬ o.kd = 1) (v : Nat) (hv : o.v = v) (hl : v < 16) (x : Nat × Bool) (hm : m v = some x) :
    Calls Try.prog 16 #[.agg (sc m).toArray, .agg o.cells.toArray, .int .i64 0] w fun e w' => e = .returned (.bool true) ∧ Below w.heap.size w w' := by
  obtain ⟨hS, hO, hB⟩ := bx2 w m o
  go_enter Try.func16, Try.ntmps16
  go_upto_region 1 with fail
  generalize (w.alloc (.cells (sc m).toArray 35)).alloc (.cells o.cells.toArray 31) = w0 at *
  have o0 : w0.cell? ⟨w.heap.size + 1, 0, none⟩ = some (.int .i64 o.kd) := hO.get rfl
  have o2 : w0.cell? ⟨w.heap.size + 1, 2, none⟩ = some (.int .i64 o.v) := hO.get rfl
  have o3 : w0.cell? ⟨w.heap.size + 1, 3, none⟩ = some (.int .i64 o.s) := hO.get rfl
  have HB := hide hB
  have hvl : v < 16 := hl
  have c0 := (hS.c hvl).1
  rw [hm] at c0
  have d3 : decide ((v : Int) < 0) = false := by simp
  have d4 : decide (16 ≤ (v : Int)) = false := by simp; omega
  rw [hv] at o2
  have k6 : (o.kd == 6) = false := by simpa using h6
  have k1 : (o.kd == 1) = false := by simpa using h1
  clear h6 h1
  have c0' : w0.cell? ⟨w.heap.size, v * 3, none⟩ = some (.bool true) := c0
  clear c0 hm
  clear hS hO hB
  go_wp2
  go_ret
  exact ⟨rfl, HB.out⟩
/-- a step of the kinds that PageKeeps asks about -/
theorem must_any (c : Int) (m' : Nat → E) (h : Step m o c m') (hk : o.kd = 1 ∨ o.kd = 2 ∨ o.kd = 3 ∨ o.kd = 6) :
    Calls Try.prog 16 #[.agg (sc m).toArray, .agg o.cells.toArray, .int .i64 c] w fun e w' => e = .returned (.bool true) ∧ Below w.heap.size w w' := by
  cases h using Step.ind with
  | mapNo hk hc =>
    by_cases h1 : o.v < 0 ∨ 16 ≤ o.v
    · have : code m o.v o.s = 60 := by unfold code; rw [if_pos h1]
      rw [this]; exact must_page w m o (by omega) h1
    · obtain ⟨k, hv⟩ : ∃ k : Nat, o.v = k := Int.eq_ofNat_of_zero_le (a := o.v) (by omega)
      by_cases h2 : o.s < 0 ∨ 48 ≤ o.s
      · have : code m o.v o.s = 30 := by unfold code; rw [if_neg h1, if_pos h2]
        rw [this]; exact must_slot w m o hk k hv (by omega) h2
      · obtain ⟨t, hs⟩ : ∃ t : Nat, o.s = t := Int.eq_ofNat_of_zero_le (a := o.s) (by omega)
        rcases hm : m k with _ | x
        · exact absurd (by unfold code; rw [if_neg h1, if_neg h2, hv]; simp [hm]) hc
        · have : code m o.v o.s = 61 := by unfold code; rw [if_neg h1, if_neg h2, hv]; simp [hm]
          rw [this]; exact must_there w m o hk k t hv (by omega) hs (by omega) x hm
  | mapOk hk hc =>
    obtain ⟨k, t, h1, h2, h3, h4, h5⟩ := code_ok hc
    exact must_free w m o hk k t h1 h3 h2 h4 h5
  | page hk hv => exact must_page w m o (by omega) hv
  | un hk k hv hl hm => exact must_un w m o (by omega) (by omega) k hv hl hm
  | unmap hk k hv hl x hm => exact must_on w m o (by omega) (by omega) k hv hl x hm
  | prot hk k hv hl s c hm => exact must_on w m o (by omega) (by omega) k hv hl _ hm
  | forget hk => exact must_6 w m o hk
  | loadNo hk c hl => omega
  | loadOk hk m' hl => omega
  | other h1 h2 h3 h6 h8 => omega
theorem stepped_any (c : Int) (m' : Nat → E) (h : Step m o c m') (hk : o.kd = 1 ∨ o.kd = 2 ∨ o.kd = 3 ∨ o.kd = 6) :
    Calls Try.prog 14 #[.agg (sc m).toArray, .agg (sc m').toArray, .agg o.cells.toArray, .int .i64 c] w fun e w' => e = .returned (.bool true) ∧ Below w.heap.size w w' := by
  have no : ∀ c : Int, c ≠ 0 → Calls Try.prog 14 #[.agg (sc m).toArray, .agg (sc m).toArray, .agg o.cells.toArray, .int .i64 c] w fun e w' => e = .returned (.bool true) ∧ Below w.heap.size w w' := fun c hc => by
    have := stepped_err w m m o c hc
    rwa [same_iff.2 (fun _ _ => rfl)] at this
  cases h using Step.ind with
  | mapNo hk hc => exact no _ hc
  | mapOk hk hc =>
    obtain ⟨k, t, h1, h2, h3, h4, h5⟩ := code_ok hc
    rw [h1, h2]
    exact stepped_1 w m _ o hk k t h1 h2 h5 (upd_same _ _ _) (fun j _ hj => upd_other _ _ hj)
  | page hk hv => exact no _ (by decide)
  | un hk k hv hl hm => exact no _ (by decide)
  | unmap hk k hv hl x hm => exact stepped_2 w m _ o hk k hv x hm (upd_same _ _ _) (fun j _ hj => upd_other _ _ hj)
  | prot hk k hv hl s c hm => exact stepped_3 w m _ o hk k s c hv hm (upd_same _ _ _) (fun j _ hj => upd_other _ _ hj)
  | forget hk => exact stepped_6 w m _ o hk (fun j hj => by simp [fg, hj])
  | loadNo hk c hl => omega
  | loadOk hk m' hl => omega
  | other h1 h2 h3 h6 h8 => omega
end
end Go.Proofs.Ytcbfolpeglfbcaa
