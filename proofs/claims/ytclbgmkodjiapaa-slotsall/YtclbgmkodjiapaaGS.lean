import Derived.Test.YtclbgmkodjiapaaGD
import Derived.Test.YtclbgmkodjiapaaGX
namespace Go.Proofs.Ytclbgmkodjiapaa
open Go.RowKit

/-- what lies at a taken place is turned -/
theorem TabAt.turn {α : Type} {K : Knd α} {w w' : World} {F : Nat → Prop} {B p : Nat} {ps : List (Option Nat)} {m : List (Option α)} (h : TabAt K w F B p ps m) {i q : Nat} {x : α} (hi : m[i]? = some (some x)) (hq : ps[i]? = some (some q)) (v : α)
    (hs : w.heap.size ≤ w'.heap.size) (hk : ∀ b, F b → b ≠ q → w'.heap[b]? = w.heap[b]?) (hw : w'.heap[q]? = some (.cells (K.enc v) K.E (0, 0))) : TabAt K w' F B p ps (m.set i (some v)) := by
  obtain ⟨hil, e⟩ := List.getElem?_eq_some_iff.1 hi
  obtain ⟨q', h1, h2, h3, h4, h5⟩ := h.held i x hi
  rw [hq] at h1; cases h1
  have hc : (m.set i (some v)).countP Option.isSome = m.countP Option.isSome := by
    have hp : 0 < m.countP Option.isSome := List.countP_pos_iff.2 ⟨_, List.mem_of_getElem? hi, rfl⟩
    rw [List.countP_set hil, e]; simp; omega
  refine ⟨?_, ?_, by simp [h.len], ?_, ?_, h.inj, h.fB, h.fp, h.ne, ?_, by simpa using h.cap⟩
  · rw [hk B h.fB (fun e => h4 e.symm), hc]; simpa using h.top
  · rw [hk p h.fp (fun e => h5 e.symm)]; exact h.row
  · intro j hj
    rw [List.getElem?_set] at hj
    split at hj
    · simp at hj
    · exact h.free j hj
  · intro j y hj
    rw [List.getElem?_set] at hj
    split at hj
    · rename_i e
      subst e
      simp at hj
      subst hj
      exact ⟨q, hq, hw, h3, h4, h5⟩
    · rename_i e
      obtain ⟨q2, g1, g2, g3, g4, g5⟩ := h.held j y hj
      refine ⟨q2, g1, ?_, g3, g4, g5⟩
      rw [hk q2 g3 (fun e2 => e (h.inj i j q hq (by rw [g1, e2])))]
      exact g2
  · intro b hb; have := h.lt b hb; omega

end Go.Proofs.Ytclbgmkodjiapaa
