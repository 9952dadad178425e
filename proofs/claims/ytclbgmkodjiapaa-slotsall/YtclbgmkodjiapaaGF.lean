import Derived.Test.YtclbgmkodjiapaaGC
import Derived.Test.YtclbgmkodjiapaaGD
import Derived.Test.YtclbgmkodjiapaaF4
namespace Go.Proofs.Ytclbgmkodjiapaa
open Go.RowKit Go.Shelf
attribute [local go_sem] Oper.semAt_some

def ceq (c d : Cl) : Bool := c.s.toList == d.s.toList && (c.a == d.a && c.b == d.b)
theorem toList_inj {a b : ByteArray} (h : a.toList = b.toList) : a = b := by
  rw [ByteArray.toList_eq, ByteArray.toList_eq] at h
  exact ByteArray.ext (Array.toList_inj.1 h)
theorem ceq_iff {c d : Cl} : ceq c d = true ↔ c = d := by
  unfold ceq
  constructor
  · intro h
    simp at h
    obtain ⟨h1, h2, h3⟩ := h
    cases c; cases d
    simp at h1 h2 h3
    simp [toList_inj h1, h2, h3]
  · rintro rfl; simp
theorem keepsOthers_below {W W' : World} (h : Below W.heap.size W W') : KeepsOthers W W' := ⟨h.size, fun k _ hk _ => (h.block k (Array.getElem?_eq_some_iff.1 hk).1).trans hk⟩
theorem boxed_below {w w' : World} {B : Nat} {t : TypeId} {v : Value} (h : Boxed w B t v) (hb : Below w.heap.size w w') : Boxed w' B t v := (hb.block B h.lt).trans h
theorem boxed_set {W : World} {b : Nat} {t : TypeId} {v : Value} (h : Boxed W b t v) (u : Value) : Boxed (W.setCell ⟨b, 0, none⟩ u) b t u := by
  have := heap_setCell_same _ b 0 _ _ u (show W.heap[b]? = _ from h)
  simpa [Boxed] using this
theorem boxed_kept {W W' : World} {b : Nat} {t : TypeId} {v : Value} {row : Option Nat} (h : Boxed W b t v) (hg : W.grownBy W' row) (hr : ∀ r, row = some r → ∃ o : Obj, W.heap[r]? = some o ∧ o.isCells = false) : Boxed W' b t v :=
  h.kept hg (fun e => by obtain ⟨o, h1, h2⟩ := hr _ e.symm; rw [show W.heap[b]? = _ from h] at h1; cases h1; cases h2)

def Nfd (m : List (Option Cl)) (v : Cl) (pre : List { x : Nat × Cl // m[x.1]? = some (some x.2) }) : Prop := ∀ y ∈ pre, y.1.2 ≠ v
theorem Nfd.snoc {m : List (Option Cl)} {v : Cl} {pre : List { x : Nat × Cl // m[x.1]? = some (some x.2) }} (h : Nfd m v pre) {x : { x : Nat × Cl // m[x.1]? = some (some x.2) }} (hx : x.1.2 ≠ v) : Nfd m v (pre ++ [x]) :=
  fun y hy => (List.mem_append.1 hy).elim (h y) (fun e => by rw [List.mem_singleton.1 e]; exact hx)
def Hit (m : List (Option Cl)) (v : Cl) (pre : List { x : Nat × Cl // m[x.1]? = some (some x.2) }) (W : World) (b : Nat) : Prop := ∃ (p0 : List { x : Nat × Cl // m[x.1]? = some (some x.2) }) (x : { x : Nat × Cl // m[x.1]? = some (some x.2) }), pre = p0 ++ [x] ∧ x.1.2 = v ∧ Nfd m v p0 ∧ Boxed W b 3 (.int .i64 (x.1.1 : Nat))
end Go.Proofs.Ytclbgmkodjiapaa
