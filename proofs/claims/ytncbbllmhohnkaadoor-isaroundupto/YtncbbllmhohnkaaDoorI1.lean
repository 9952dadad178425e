import Derived.Test.YtncbbllmhohnkaaDoorI0
namespace Go.Proofs.YtncbbllmhohnkaaDoor
open Go.RowKit

/-- the operations' table lies as its text lays it -/
structure Ops (w : World) : Prop where
  s : ∀ n, n < 27 → ∃ s : ByteArray, w.cell? ⟨0, n * 4, none⟩ = some (.string s) ∧ s.data.toList = nm n
  a : ∀ n, n < 27 → w.cell? ⟨0, n * 4 + 1, none⟩ = some (.bool (uA n))
  b : ∀ n, n < 27 → w.cell? ⟨0, n * 4 + 2, none⟩ = some (.bool (uB n))
  k : ∀ n, n < 27 → w.cell? ⟨0, n * 4 + 3, none⟩ = some (.int .i64 (kd n : Nat))
theorem cell_lt {w : World} {b o : Nat} {v : Value} (h : w.cell? ⟨b, o, none⟩ = some v) : b < w.heap.size := by
  by_cases hb : b < w.heap.size
  · exact hb
  · have e : w.heap[b]? = none := Array.getElem?_eq_none (by omega)
    simp [World.cell?, e] at h
theorem Ops.lt {w : World} (h : Ops w) : 0 < w.heap.size := cell_lt (h.a 0 (by omega))
theorem Ops.below {w w' : World} (h : Ops w) (hb : Below w.heap.size w w') : Ops w' := by
  have hc : ∀ o, w'.cell? ⟨0, o, none⟩ = w.cell? ⟨0, o, none⟩ := fun o => hb.cell (p := ⟨0, o, none⟩) h.lt
  exact ⟨fun n hn => by rw [hc]; exact h.s n hn, fun n hn => by rw [hc]; exact h.a n hn, fun n hn => by rw [hc]; exact h.b n hn, fun n hn => by rw [hc]; exact h.k n hn⟩
section
variable (w : World)
theorem isOp_any (n : Int) : Calls Tryd.prog 41 #[.int .i64 n] w fun e w' => e = .returned (.bool (decide (1 ≤ n) && decide (n < 27))) ∧ w' = w := by
  by_cases h1 : 1 ≤ n
  · by_cases h2 : n < 27
    · go_enter Tryd.func41, Tryd.ntmps41
      go_wp2
      go_ret
      exact ⟨by simp [h1, h2], rfl⟩
    · go_enter Tryd.func41, Tryd.ntmps41
      go_wp2
      go_ret
      exact ⟨by simp [h2], rfl⟩
  · go_enter Tryd.func41, Tryd.ntmps41
    go_wp2
    go_ret
    exact ⟨by simp; omega, rfl⟩
theorem bounds_any (k : Nat) (hk : k = 0 ∨ k = 1 ∨ k = 2) : Calls Tryd.prog 58 #[.int .i64 (k : Int)] w fun e w' => e = .returned (.tuple #[.int .i64 (lo k), .int .i64 (hi k)]) ∧ w' = w := by
  rcases hk with rfl | rfl | rfl
  all_goals
    go_enter Tryd.func58, Tryd.ntmps58
    go_wp2
    go_ret2
    exact ⟨rfl, rfl⟩
theorem fits_any (n : Int) (u : Bool) : Calls Tryd.prog 59 #[.int .i64 n, .bool u] w fun e w' => e = .returned (.bool (fitsB n u)) ∧ w' = w := by
  by_cases h0 : n = 0
  · subst h0
    go_enter Tryd.func59, Tryd.ntmps59
    go_wp2
    go_ret
    exact ⟨by simp [fitsB], rfl⟩
  · cases u
    · go_enter Tryd.func59, Tryd.ntmps59
      go_wp2
      go_ret
      exact ⟨by simp [fitsB], rfl⟩
    · by_cases h1 : 0 < n
      · by_cases h2 : n < 8
        · go_enter Tryd.func59, Tryd.ntmps59
          go_wp2
          go_ret
          exact ⟨by simp [fitsB, h1, h2], rfl⟩
        · go_enter Tryd.func59, Tryd.ntmps59
          go_wp2
          go_ret
          exact ⟨by simp [fitsB, h0, h2], rfl⟩
      · go_enter Tryd.func59, Tryd.ntmps59
        go_wp2
        go_ret
        exact ⟨by simp [fitsB, h0]; omega, rfl⟩
end
end Go.Proofs.YtncbbllmhohnkaaDoor
