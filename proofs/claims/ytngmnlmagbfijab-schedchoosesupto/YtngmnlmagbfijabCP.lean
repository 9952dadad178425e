import Derived.Test.YtngmnlmagbfijabCA0
namespace Go.Proofs.Ytngmnlmagbfijab
open Go.RowKit
/-- a step of a script -/
structure Og where
  k : Int
  t : Int
  n : Int
  m : Int
  R : List Int
/-- v is a slice of steps, in blocks of S -/
def OpR (S : Nat → Prop) (w : World) (v : Value) (l : List Og) : Prop :=
  ∃ ao cap, v = .slice ao l.length cap ∧ l.length ≤ cap ∧ ∀ i o, l[i]? = some o → ∃ x u, ao = some x ∧ S x.block ∧ w.cell? (x.add (i * 5)) = some (.int .i64 o.k) ∧ w.cell? (x.add (i * 5 + 1)) = some (.int .i64 o.t) ∧ w.cell? (x.add (i * 5 + 2)) = some (.int .i64 o.n) ∧ w.cell? (x.add (i * 5 + 3)) = some (.int .i64 o.m) ∧ w.cell? (x.add (i * 5 + 4)) = some u ∧ Rd S w u o.R
section
variable {S S' : Nat → Prop} {w w' : World} {v : Value}
theorem OpR.keep {l : List Og} (h : OpR S w v l) (hb : ∀ b, S b → w'.heap[b]? = w.heap[b]?) : OpR S w' v l := by
  obtain ⟨ao, cap, h1, h2, h3⟩ := h
  refine ⟨ao, cap, h1, h2, fun i o ho => ?_⟩
  obtain ⟨x, u, e, hS, c0, c1, c2, c3, c4, c5⟩ := h3 i o ho
  have hx := hb _ hS
  exact ⟨x, u, e, hS, cell_keep c0 hx, cell_keep c1 hx, cell_keep c2 hx, cell_keep c3 hx, cell_keep c4 hx, c5.keep hb⟩
end
/-- what a script costs -/
def cost : List Og → Nat
  | [] => 0
  | o :: t => o.R.length + 1 + cost t
theorem cost_app : ∀ (l r : List Og), cost (l ++ r) = cost l + cost r
  | [], r => by simp [cost]
  | a :: t, r => by simp only [List.cons_append, cost, cost_app t r]; omega
theorem cost_take : ∀ (l : List Og) (k : Nat), cost (l.take k) ≤ cost l
  | [], k => by simp
  | a :: t, 0 => by simp [cost]
  | a :: t, k + 1 => by simp only [List.take_succ_cons, cost]; have := cost_take t k; omega
theorem cost_len : ∀ (l : List Og), l.length ≤ cost l
  | [] => by simp
  | a :: t => by simp only [List.length_cons, cost]; have := cost_len t; omega
/-- the values fit -/
def Fit (l : List Og) : Prop := ∀ o ∈ l, I64 o.n ∧ ∀ z ∈ o.R, I64 z
theorem cost_succ' {l : List Og} {k : Nat} {o : Og} (h : l[k]? = some o) : cost (l.take (k + 1)) = cost (l.take k) + (o.R.length + 1) := by
  obtain ⟨h1, h2⟩ := List.getElem?_eq_some_iff.1 h
  rw [List.take_succ_eq_append_getElem h1, h2, cost_app]
  rfl
end Go.Proofs.Ytngmnlmagbfijab
