import Derived.Test.YtclbgmkodjiapaaGI
namespace Go.Proofs.Ytclbgmkodjiapaa
open Go.RowKit Go.Shelf
attribute [local go_sem] Oper.semAt_some

theorem cell_of_box {W : World} {B : Nat} {v : Value} {t : TypeId} (h : W.heap[B]? = some (.cells #[v] t (0, 0))) : W.cell? ⟨B, 0, none⟩ = some v ∧ W.frozen? ⟨B, 0, none⟩ = false := by
  constructor <;> simp [World.cell?, World.frozen?, h]
theorem cell_new (W : World) (v : Value) (t : TypeId) : (W.alloc (.cells #[v] t)).cell? ⟨W.heap.size, 0, none⟩ = some v ∧ (W.alloc (.cells #[v] t)).frozen? ⟨W.heap.size, 0, none⟩ = false :=
  cell_of_box (World.alloc_heap_new W _)
theorem cell_alloc {W : World} {a : Addr} {v : Value} (o : Obj) (h : W.cell? a = some v) : (W.alloc o).cell? a = some v := cell_kept h (World.grownBy_alloc W o none) (fun r e => by cases e)
theorem frozen_alloc {W : World} {a : Addr} {v : Value} (o : Obj) (h : W.cell? a = some v) (hf : W.frozen? a = false) : (W.alloc o).frozen? a = false := (frozen_kept h (World.grownBy_alloc W o none) (fun r e => by cases e)).trans hf

/-- what Find answers -/
def Found {α : Type} (m : List (Option α)) (v : α) (r : Int) : Prop := (r = -1 ∧ ∀ k : Nat, look m (k : Int) ≠ some v) ∨ ∃ k : Nat, r = k ∧ look m (k : Int) = some v ∧ ∀ j : Nat, j < k → look m (j : Int) ≠ some v
theorem found_none {α : Type} {m : List (Option α)} {v : α} (h : ∀ y ∈ prs m 0, y.2 ≠ v) : Found m v (-1) :=
  .inl ⟨rfl, fun _ hk => h _ (look_prs.1 hk) rfl⟩
theorem found_some {α : Type} {m : List (Option α)} {v : α} {p0 : List (Nat × α)} {k : Nat} (h : p0 ++ [(k, v)] <+: prs m 0) (h0 : ∀ y ∈ p0, y.2 ≠ v) : Found m v k := by
  refine .inr ⟨k, rfl, look_prs.2 (h.subset (by simp)), fun j hj hl => ?_⟩
  have hs : (prs m 0).Pairwise (fun a b => a.1 < b.1) := by unfold prs; exact prsL_sorted _ _
  obtain ⟨r, hr⟩ := h
  have hm := look_prs.1 hl
  rw [← hr] at hs hm
  rcases List.mem_append.1 hm with hm | hm
  · rcases List.mem_append.1 hm with hm | hm
    · exact h0 _ hm rfl
    · simp at hm; omega
  · have := (List.pairwise_append.1 hs).2.2 (k, v) (by simp) _ hm
    simp at this; omega

end Go.Proofs.Ytclbgmkodjiapaa
