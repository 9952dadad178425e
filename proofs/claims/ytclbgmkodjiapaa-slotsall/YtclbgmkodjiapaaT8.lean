import Derived.Test.YtclbgmkodjiapaaT5
import Derived.Test.YtclbgmkodjiapaaT4
import Derived.Laws.CopyRow
namespace Go.Proofs.Ytclbgmkodjiapaa
open Go.RowKit


theorem zeroCells_one (z : Value) (n : Nat) : (Builtin.zeroCells #[z] n).toList = List.replicate n z := by
  have : Builtin.zeroCells #[z] n = madeCells #[z] n := by simp [Builtin.zeroCells, madeCells]
  rw [this, toList_madeCells_one]
section
variable {α : Type} {K : Knd α} {w : World} {F : Nat → Prop} {B p : Nat} {ps : List (Option Nat)} {m : List (Option α)}
/-- what a clearing leaves -/
theorem TabAt.clear (h : TabAt K w F B p ps m) : TabAt K ((w.setRow p (List.replicate m.length (Value.pointer none)).toArray).setCell ⟨B, 1, none⟩ (.int .i64 0)) F B p (List.replicate m.length none) (List.replicate m.length none) := by
  have hne := h.ne
  have h0 : (List.replicate m.length (none : Option α)).countP Option.isSome = 0 := List.countP_eq_zero.2 (fun a ha => by rw [(List.mem_replicate.1 ha).2]; simp)
  refine ⟨?_, ?_, by simp, ?_, ?_, ?_, h.fB, h.fp, h.ne, ?_, by simpa using h.cap⟩
  · have t2 : (w.setRow p (List.replicate m.length (Value.pointer none)).toArray).heap[B]? = _ := (setRow_other w p B _ (fun e => hne e.symm)).trans h.top
    rw [heap_setCell_same _ B 1 _ _ _ t2, h0]
    simp
  · rw [heap_setCell_other _ _ p _ hne, setRow_heap w p _ _ _ _ h.row]
    simp [Ytclbgmkodjiapaa.ptr]
  · intro i hi; rw [List.getElem?_replicate] at hi ⊢; split <;> simp_all
  · intro i x hi; rw [List.getElem?_replicate] at hi; split at hi <;> simp at hi
  · intro i j q hi; rw [List.getElem?_replicate] at hi; split at hi <;> simp at hi
  · intro b hb; have := h.lt b hb; simpa [World.setCell] using this
theorem Mod.setRow {a w : World} {F : Nat → Prop} (h : Mod F a w) {p : Nat} (hp : F p) (cs : Array Value) : Mod F a (w.setRow p cs) :=
  ⟨h.os, h.tape, h.output, by simpa using h.size, fun k hk hf => by
    rw [setRow_other w p k cs (fun e => by subst e; exact hf hp)]; exact h.block k hk hf⟩
end
end Go.Proofs.Ytclbgmkodjiapaa
