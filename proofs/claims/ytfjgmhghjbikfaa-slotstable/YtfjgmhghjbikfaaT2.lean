import Derived.Test.YtfjgmhghjbikfaaT1
import Derived.Laws.MakeOwn
namespace Go.Proofs.Ytfjgmhghjbikfaa
open Go.RowKit

set_option maxHeartbeats 400000 in
theorem cell_any (w : World) (v : Int) :
    Calls Try.prog 23 #[.int .i64 v] w fun x w' => x = .returned (cl v).val ∧ Below w.heap.size w w' := by
  by_cases h : v.tmod 2 = 0
  · go_enter Try.func23, Try.ntmps23
    go_wp2
    go_returns
    exact ⟨by simp [cl, Cl.val, h], (Below.refl _ _).alloc (Nat.le_refl _) _⟩
  · go_enter Try.func23, Try.ntmps23
    go_wp2
    go_returns
    exact ⟨by simp [cl, Cl.val, h], (Below.refl _ _).alloc (Nat.le_refl _) _⟩

/-- the bound of New(n) -/
def clp (n : Int) : Nat := (min (max n 0) 4096).toNat
theorem clp_le (n : Int) : clp n ≤ 4096 := by unfold clp; omega
theorem clp_eq (n : Int) : ((clp n : Nat) : Int) = min (max n 0) 4096 := by unfold clp; omega
theorem clp_cases (n : Int) : (n < 0 ∧ clp n = 0) ∨ (∃ N : Nat, N < 4096 ∧ n = (N : Int) ∧ clp n = N) ∨ (4096 ≤ n ∧ clp n = 4096) := by
  unfold clp
  by_cases h : 4096 ≤ n
  · exact .inr (.inr ⟨h, by omega⟩)
  · by_cases h' : n < 0
    · exact .inl ⟨by omega, by omega⟩
    · exact .inr (.inl ⟨n.toNat, by omega, by omega, by omega⟩)
theorem info87 : ∃ i, Try.prog.info? 85 = some i ∧ i.zero = some (.pointer none) ∧ i.size = 1 ∧ i.bytes = 8 := info_parts (by kernel_rfl)
theorem make87 (w : World) (n : Nat) (h : n ≤ 4096) : (Instr.makeSlice 82 (.int .i64 (n : Int)) (.int .i64 (n : Int))).run Try.prog w = .ok (.slice (some ⟨w.heap.size, 0, none⟩) n n) (w.alloc (.cells (madeCells #[.pointer none] n) 85)) := by
  obtain ⟨i, hi, hz, hs, hb⟩ := info87
  simpa [hs, Value.cells] using run_make (P := Try.prog) w 82 85 i (.pointer none) Try.underlying82 hi hz .i64 .i64 n n (by omega) (Int.le_refl _) (by rw [hb]; omega) (by omega)
set_option maxHeartbeats 400000 in
theorem newC_any (w : World) (n : Int) :
    Calls Try.prog 18 #[.int .i64 n] w fun x w' => x = .returned (.pointer (some ⟨w.heap.size + 1, 0, none⟩)) ∧ Tab KC w' (fun b => b = w.heap.size ∨ b = w.heap.size + 1) (w.heap.size + 1) (List.replicate (clp n) none) ∧ Below w.heap.size w w' := by
  have H := hide (fun N (h : N ≤ 4096) => (⟨_, _, TabAt.fresh KC w N h⟩ : Tab KC _ _ _ _))
  have hbel : ∀ a b, Below w.heap.size w ((w.alloc a).alloc b) := fun a b => ((Below.refl _ _).alloc (Nat.le_refl _) _).alloc (by simp) _
  rcases clp_cases n with ⟨h, e⟩ | ⟨N, h1, rfl, e⟩ | ⟨h, e⟩ <;> (have HE := hide e; clear e)
  · have hm : (Instr.makeSlice 82 (.int .i64 0) (.int .i64 0)).run Try.prog w = _ := make87 w 0 (by omega)
    go_enter Try.func18, Try.ntmps18
    go_wp2
    go_ret
    exact ⟨rfl, by rw [HE.out]; exact H.out 0 (by omega), hbel _ _⟩
  · have hm := make87 w N (by omega)
    have h3 : (N : Int) < 4096 := by omega
    go_enter Try.func18, Try.ntmps18
    go_wp2
    go_ret
    exact ⟨rfl, by rw [HE.out]; exact H.out N (by omega), hbel _ _⟩
  · have hm : (Instr.makeSlice 82 (.int .i64 4096) (.int .i64 4096)).run Try.prog w = .ok (.slice (some ⟨w.heap.size, 0, none⟩) 4096 4096) (w.alloc (.cells (madeCells #[.pointer none] 4096) 85)) := make87 w 4096 (by omega)
    rcases Int.lt_or_eq_of_le h with h' | rfl
    · have h3 : ¬ n < 4096 := by omega
      have h4 : 0 ≤ n := by omega
      clear h
      go_enter Try.func18, Try.ntmps18
      go_wp2
      go_ret
      exact ⟨rfl, by rw [HE.out]; exact H.out 4096 (by omega), hbel _ _⟩
    · go_enter Try.func18, Try.ntmps18
      go_wp2
      go_ret
      exact ⟨rfl, by rw [HE.out]; exact H.out 4096 (by omega), hbel _ _⟩
set_option maxHeartbeats 400000 in
theorem lenC_any (w : World) (F : Nat → Prop) (B : Nat) (m : List (Option Cl)) (h : Tab KC w F B m) :
    Calls Try.prog 22 #[.pointer (some ⟨B, 0, none⟩)] w fun x w' => x = .returned (.int .i64 ((m.countP Option.isSome : Nat) : Int)) ∧ w' = w := by
  obtain ⟨p, ps, h⟩ := h
  obtain ⟨c0, c1, f0, f1⟩ := h.cells
  clear h
  generalize m.countP Option.isSome = c at *
  go_enter Try.func22, Try.ntmps22
  go_wp2
  go_ret
  exact ⟨rfl, rfl⟩
set_option maxHeartbeats 400000 in
theorem boundC_any (w : World) (F : Nat → Prop) (B : Nat) (m : List (Option Cl)) (h : Tab KC w F B m) :
    Calls Try.prog 21 #[.pointer (some ⟨B, 0, none⟩)] w fun x w' => x = .returned (.int .i64 (m.length : Nat)) ∧ w' = w := by
  obtain ⟨p, ps, h⟩ := h
  obtain ⟨c0, c1, f0, f1⟩ := h.cells
  clear h
  generalize m.length = c at *
  go_enter Try.func21, Try.ntmps21
  go_wp2
  go_ret
  exact ⟨rfl, rfl⟩
set_option maxHeartbeats 400000 in
theorem outsideC_any (w : World) (F : Nat → Prop) (B : Nat) (m : List (Option Cl)) (h : Tab KC w F B m) (i : Int) :
    Calls Try.prog 54 #[.pointer (some ⟨B, 0, none⟩), .int .i64 i] w fun x w' => x = .returned (.bool (decide (i < 0 ∨ (m.length : Int) ≤ i))) ∧ w' = w := by
  obtain ⟨p, ps, h⟩ := h
  obtain ⟨c0, c1, f0, f1⟩ := h.cells
  clear h
  generalize m.length = c at *
  by_cases h0 : i < 0
  · have e : decide (i < 0 ∨ (c : Int) ≤ i) = true := by simp [h0]
    rw [e]
    go_enter Try.func54, Try.ntmps54
    go_wp2
    go_ret
    exact ⟨rfl, rfl⟩
  · have e : decide (i < 0 ∨ (c : Int) ≤ i) = decide ((c : Int) ≤ i) := by simp [h0]
    rw [e]
    go_enter Try.func54, Try.ntmps54
    go_wp2
    go_ret
    exact ⟨rfl, rfl⟩
end Go.Proofs.Ytfjgmhghjbikfaa
