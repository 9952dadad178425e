import Derived.Test.YtclbgmkodjiapaaF4
namespace Go.Proofs.Ytclbgmkodjiapaa
open Go.RowKit Go.Shelf
attribute [local go_sem] Oper.semAt_some

/-- what stands in a table of n places when these pairs have been laid -/
def fill {α : Type} (n : Nat) (l : List (Nat × α)) : List (Option α) := l.foldl (fun m x => m.set x.1 (some x.2)) (List.replicate n none)
theorem fill_snoc {α : Type} (n : Nat) (l : List (Nat × α)) (x : Nat × α) : fill n (l ++ [x]) = (fill n l).set x.1 (some x.2) := by simp [fill]
theorem fold_len {α : Type} (l : List (Nat × α)) : ∀ m : List (Option α), (l.foldl (fun m x => m.set x.1 (some x.2)) m).length = m.length := by
  induction l with
  | nil => intro m; rfl
  | cons x t ih => intro m; rw [List.foldl_cons, ih]; simp
theorem fill_len {α : Type} (n : Nat) (l : List (Nat × α)) : (fill n l).length = n := by unfold fill; rw [fold_len]; simp
theorem fold_prs {α : Type} : ∀ (t a : List (Option α)), (prsL a.length t).foldl (fun m x => m.set x.1 (some x.2)) (a ++ List.replicate t.length none) = a ++ t
  | [], a => by simp [prsL]
  | none :: t, a => by
    have := fold_prs t (a ++ [none])
    simp only [List.length_append, List.length_cons, List.length_nil] at this
    rw [prsL, show a ++ List.replicate (none :: t).length none = a ++ [none] ++ List.replicate t.length none by simp [List.replicate_succ]]
    simpa using this
  | some x :: t, a => by
    have := fold_prs t (a ++ [some x])
    simp only [List.length_append, List.length_cons, List.length_nil] at this
    have e : (a ++ List.replicate (t.length + 1) none).set a.length (some x) = a ++ [some x] ++ List.replicate t.length none := by simp [List.replicate_succ]
    show (prsL (a.length + 1) t).foldl (fun m x => m.set x.1 (some x.2)) ((a ++ List.replicate (t.length + 1) none).set a.length (some x)) = _
    rw [e]
    simpa using this
theorem fill_prs {α : Type} (m : List (Option α)) : fill m.length (prs m 0) = m := by
  have := fold_prs m []
  simpa [fill, prs] using this
theorem clp_nat (n : Nat) (h : n ≤ 4096) : clp (n : Int) = n := by unfold clp; omega

end Go.Proofs.Ytclbgmkodjiapaa
