import Derived.Test.YtooikfmebjohfaaM1
import Derived.Test.YtooikfmebjohfaaT2
namespace Go.Proofs.Ytooikfmebjohfaa
open Go.RowKit

/-- a tie: its struct at B, its two maps at r1 and r2; the pairs in the order in which they came -/
structure TieAt {β : Type} (S : TypeId) (KB : Cod β) (w : World) (F : Nat → Prop) (B r1 r2 : Nat) (ps : List (Int × β)) : Prop where
  top : w.heap[B]? = some (.cells #[.map (some r1), .map (some r2)] S (0, 0))
  to : MapIs w r1 KI64 KB.enc ps
  back : MapIs w r2 KB (fun a : Int => Value.int .i64 a) (ps.map Prod.swap)
  nd1 : (ps.map Prod.fst).Nodup
  nd2 : (ps.map Prod.snd).Nodup
  fB : F B
  f1 : F r1
  f2 : F r2
  n1 : r1 ≠ B
  n2 : r2 ≠ B
  n3 : r1 ≠ r2
  lt : ∀ b, F b → b < w.heap.size
def Tie {β : Type} (S : TypeId) (KB : Cod β) (w : World) (F : Nat → Prop) (B : Nat) (ps : List (Int × β)) : Prop := ∃ r1 r2, TieAt S KB w F B r1 r2 ps
section
variable {β : Type} {S : TypeId} {KB : Cod β} {w w' : World} {F : Nat → Prop} {B r1 r2 : Nat} {ps : List (Int × β)}
theorem MapIs.keep {α γ : Type} {K : Cod α} {E : γ → Value} {r : Nat} {qs : List (α × γ)} (h : MapIs w r K E qs) (hk : w'.heap[r]? = w.heap[r]?) : MapIs w' r K E qs := by
  obtain ⟨es, c, h1, h2⟩ := h; exact ⟨es, c, by rw [hk]; exact h1, h2⟩
theorem TieAt.keep (h : TieAt S KB w F B r1 r2 ps) (hs : w.heap.size ≤ w'.heap.size) (hk : ∀ b, F b → w'.heap[b]? = w.heap[b]?) : TieAt S KB w' F B r1 r2 ps :=
  ⟨by rw [hk B h.fB]; exact h.top, h.to.keep (hk _ h.f1), h.back.keep (hk _ h.f2), h.nd1, h.nd2, h.fB, h.f1, h.f2, h.n1, h.n2, h.n3, fun b hb => Nat.lt_of_lt_of_le (h.lt b hb) hs⟩
theorem TieAt.cells (h : TieAt S KB w F B r1 r2 ps) : w.cell? ⟨B, 0, none⟩ = some (.map (some r1)) ∧ w.cell? ⟨B, 1, none⟩ = some (.map (some r2)) :=
  ⟨by rw [cell_of_row _ _ _ _ _ _ h.top]; rfl, by rw [cell_of_row _ _ _ _ _ _ h.top]; rfl⟩
/-- a new tie -/
theorem TieAt.fresh (S : TypeId) (KB : Cod β) (w : World) :
    TieAt S KB (((w.alloc (.map #[] 0)).alloc (.map #[] 0)).alloc (.cells #[.map (some w.heap.size), .map (some (w.heap.size + 1))] S)) (fun b => b = w.heap.size ∨ b = w.heap.size + 1 ∨ b = w.heap.size + 2) (w.heap.size + 2) w.heap.size (w.heap.size + 1) [] := by
  refine ⟨?_, ⟨#[], 0, ?_, rfl⟩, ⟨#[], 0, ?_, rfl⟩, .nil, .nil, .inr (.inr rfl), .inl rfl, .inr (.inl rfl), by omega, by omega, by omega, ?_⟩
  · have := heap_alloc_new ((w.alloc (.map #[] 0)).alloc (.map #[] 0)) (.cells #[.map (some w.heap.size), .map (some (w.heap.size + 1))] S)
    simpa using this
  · rw [Below.heap_alloc _ _ _ (by simp; omega), Below.heap_alloc _ _ _ (by simp)]
    exact heap_alloc_new _ _
  · rw [Below.heap_alloc _ _ _ (by simp)]
    have := heap_alloc_new (w.alloc (.map #[] 0)) (.map #[] 0)
    simpa using this
  · intro b hb; simp; omega
end
set_option maxHeartbeats 400000 in
theorem newB_any (w : World) :
    Calls Try.prog 21 #[] w fun x w' => x = .returned (.pointer (some ⟨w.heap.size + 2, 0, none⟩)) ∧ Tie 82 KI64 w' (fun b => b = w.heap.size ∨ b = w.heap.size + 1 ∨ b = w.heap.size + 2) (w.heap.size + 2) [] ∧ Below w.heap.size w w' := by
  have hmm := @run_makeMap Try.prog
  have HB := hide (fun a b c => (((Below.refl w.heap.size w).alloc (Nat.le_refl _) a).alloc (by simp) b).alloc (by simp; omega) c)
  go_enter Try.func21, Try.ntmps21
  go_wp2
  go_ret
  exact ⟨rfl, ⟨_, _, TieAt.fresh 82 KI64 w⟩, HB.out _ _ _⟩
theorem zero3 (w : World) : (zeroValue 3).run Try.prog w = .ok (.int .i64 0) w := by kernel_rfl
set_option maxHeartbeats 400000 in
theorem toB_any (w : World) (F : Nat → Prop) (B : Nat) (ps : List (Int × Int)) (h : Tie 82 KI64 w F B ps) (a : Int) :
    Calls Try.prog 23 #[.pointer (some ⟨B, 0, none⟩), .int .i64 a] w fun x w' => x = .returned (.tuple #[.int .i64 ((atK KI64 ps a).getD 0), .bool (atK KI64 ps a).isSome]) ∧ w' = w := by
  obtain ⟨r1, r2, h⟩ := h
  obtain ⟨c0, c1⟩ := h.cells
  have hl : (Instr.lookup 80 (.map (some r1)) (.int .i64 a) true).run Try.prog w = _ := run_look key_int (E := fun a : Int => Value.int .i64 a) (K := KI64) Try.underlying80 zero3 h.to a
  clear h
  cases hq : atK KI64 ps a with
  | none =>
    rw [hq] at hl
    simp only [Option.map_none, Option.getD_none, Option.isSome_none] at hl
    go_enter Try.func23, Try.ntmps23
    go_wp2
    go_ret2
    exact ⟨rfl, rfl⟩
  | some b =>
    rw [hq] at hl
    simp only [Option.map_some, Option.getD_some, Option.isSome_some] at hl
    go_enter Try.func23, Try.ntmps23
    go_wp2
    go_ret2
    exact ⟨rfl, rfl⟩
end Go.Proofs.Ytooikfmebjohfaa
