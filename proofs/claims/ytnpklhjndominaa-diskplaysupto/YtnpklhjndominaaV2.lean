import Derived.Test.YtnpklhjndominaaY0
namespace Go.Proofs.Ytnpklhjndominaa
open Go.RowKit

def two (z : Int) : List Value := [.int .i64 z, .int .u8 0]
theorem two_get (l : List Int) (k : Nat) (z : Int) (hk : l[k]? = some z) : (l.flatMap two)[k * 2]? = some (.int .i64 z) ∧ (l.flatMap two)[k * 2 + 1]? = some (.int .u8 0) := by
  induction l generalizing k with
  | nil => simp at hk
  | cons y r ih =>
    have hf : (y :: r).flatMap two = [.int .i64 y, .int .u8 0] ++ r.flatMap two := rfl
    rw [hf]
    cases k with
    | zero => simp at hk; subst hk; simp
    | succ k =>
      obtain ⟨h1, h2⟩ := ih k (by simpa using hk)
      rw [List.getElem?_append_right (by simp; omega), List.getElem?_append_right (by simp; omega)]
      refine ⟨?_, ?_⟩
      · rw [← h1]; congr 1; simp; omega
      · rw [← h2]; congr 1; simp; omega
/-- the neighbours of the first k writes -/
def nx (Z : Nat → Int × Nat) (k : Nat) : List Int := (List.range k).map (fun j => ((pl (Z j).1 : Nat) : Int) + 1)
theorem nx_succ (Z : Nat → Int × Nat) (k : Nat) : nx Z (k + 1) = nx Z k ++ [((pl (Z k).1 : Nat) : Int) + 1] := by simp [nx, List.range_succ]
theorem nx_len (Z : Nat → Int × Nat) (k : Nat) : (nx Z k).length = k := by simp [nx]
theorem nx_in (Z : Nat → Int × Nat) (k : Nat) : ∀ z ∈ nx Z k, 0 ≤ z ∧ z ≤ 1024 := by
  intro z hz
  simp [nx] at hz
  obtain ⟨j, _, rfl⟩ := hz
  have := pl_lt (Z j).1
  omega
theorem cell_two_new (w : World) (t : TypeId) (u v : Value) : ∀ j x, [u, v][j]? = some x → (w.alloc (.cells #[u, v] t)).cell? ((⟨w.heap.size, 0, none⟩ : Addr).add j) = some x := by
  intro j x hx
  rw [add0, cell_of_row _ _ _ _ _ _ (heap_alloc_last w (.cells #[u, v] t))]
  simpa using hx
end Go.Proofs.Ytnpklhjndominaa
