import Derived.Test.YtfjgmhghjbikfaaT5
import Derived.Test.YtfjgmhghjbikfaaT4
import Derived.Laws.CopyRow
namespace Go.Proofs.Ytfjgmhghjbikfaa
open Go.RowKit

set_option maxHeartbeats 400000 in
/-- PutAt, at each kind of place -/
theorem putAtC_any (w : World) (F : Nat → Prop) (B : Nat) (m : List (Option Cl)) (h : Tab KC w F B m) (i : Int) (c : Cl) :
    Calls Try.prog 27 #[.pointer (some ⟨B, 0, none⟩), .int .i64 i, c.val] w fun x w' => ∃ (v : Int) (m' : List (Option Cl)) (F' : Nat → Prop), x = .returned (.int .i64 v) ∧ Tab KC w' F' B m' ∧ Ext F w F' w' ∧
      (((i < 0 ∨ (m.length : Int) ≤ i) ∧ v = 30 ∧ m' = m) ∨ (∃ (k : Nat) (x : Cl), i = k ∧ m[k]? = some (some x) ∧ v = 31 ∧ m' = m) ∨ ∃ k : Nat, i = k ∧ m[k]? = some none ∧ v = 0 ∧ m' = m.set k (some c)) := by
  have HT := hide (fun o => h.below ((Below.refl w.heap.size w).alloc (Nat.le_refl _) o))
  have HB := hide (fun o => (⟨(Mod.refl F w).alloc o, fun _ h => .inl h⟩ : Ext F w F (w.alloc o)))
  have HO := hide (fun o => outsideC_any _ F B m (HT.out o) i)
  obtain ⟨p, ps, h⟩ := h
  have h' := fun o => h.keep (w' := w.alloc o) (by simp) (fun b hb => Below.heap_alloc _ _ _ (h.lt b hb))
  have c0 := fun o => (h' o).cells.1
  simp only [Cl.val]
  rcases look_cases m i with ⟨h1, e⟩ | ⟨k, rfl, hk, hm, e⟩ | ⟨k, x, rfl, hk, hm, e⟩ <;> clear e
  · have hd : decide (i < 0 ∨ (m.length : Int) ≤ i) = true := by simpa using h1
    rw [hd] at HO
    have H1 := hide h1
    clear h h1 h' hd
    generalize hn : m.length = n at *
    clear hn
    go_enter Try.func27, Try.ntmps27
    go_wp2_with fail
    refine (HO.out _).mono ?_
    rintro e w1 ⟨rfl, rfl⟩
    go_wp2
    go_ret
    exact ⟨30, m, F, rfl, HT.out _, HB.out _, .inl ⟨H1.out, rfl, rfl⟩⟩
  · rw [in_false hk] at HO
    have c2 := fun o => (h' o).nil hm
    have HL := hide (fun o => layC_any _ F B m (HT.out o) k hm c)
    have HM := hide hm
    clear h h' hm
    generalize hn : m.length = n at *
    clear hn
    simp only [Cl.val] at HL
    go_enter Try.func27, Try.ntmps27
    go_wp2_with fail
    refine (HO.out _).mono ?_
    rintro e w1 ⟨rfl, rfl⟩
    go_wp2_with fail
    refine (HL.out _).mono ?_
    rintro e w2 ⟨rfl, F', hT, hE⟩
    have HT1 := hide hT
    have HE1 := hide hE
    clear hT hE
    go_wp2
    go_ret
    exact ⟨0, _, F', rfl, HT1.out, (HB.out _).trans HE1.out, .inr (.inr ⟨k, rfl, HM.out, rfl, rfl⟩)⟩
  · rw [in_false hk] at HO
    obtain ⟨q, hq1, _, _, _⟩ := h.ptr hm
    have c2 := fun o => ((h' o).place hq1).1
    have HM := hide hm
    clear h h' hm hq1
    simp only [ptr] at c2
    generalize hn : m.length = n at *
    clear hn
    go_enter Try.func27, Try.ntmps27
    go_wp2_with fail
    refine (HO.out _).mono ?_
    rintro e w1 ⟨rfl, rfl⟩
    go_wp2
    go_ret
    exact ⟨31, m, F, rfl, HT.out _, HB.out _, .inr (.inl ⟨k, x, rfl, HM.out, rfl, rfl⟩)⟩

theorem zeroCells_one (z : Value) (n : Nat) : (Builtin.zeroCells #[z] n).toList = List.replicate n z := by
  have : Builtin.zeroCells #[z] n = madeCells #[z] n := by simp [Builtin.zeroCells, madeCells]
  rw [this, toList_madeCells_one]
/-- clear, of a slice of pointers that is its whole row -/
theorem clear84 (w : World) (p n : Nat) (cur : Array Value) (ty : TypeId) (hp : w.heap[p]? = some (.cells cur 85 (0, 0))) (hn : cur.size = n) :
    (Builtin.clear_ #[82] ty #[.slice (some ⟨p, 0, none⟩) n n]).run Try.prog w = .ok (.tuple #[]) (w.setRow p (List.replicate n (.pointer none)).toArray) := by
  rcases Nat.eq_zero_or_pos n with h0 | h0
  · subst h0
    have : cur = #[] := Array.eq_empty_of_size_eq_zero hn
    subst this
    rw [show (List.replicate 0 (Value.pointer none)).toArray = #[] from rfl, setRow_self w p #[] 85 (0, 0) hp]
    simp [Builtin.clear_, run_underlying Try.underlying82]
  · obtain ⟨k, rfl⟩ : ∃ k, n = k + 1 := ⟨n - 1, by omega⟩
    have hs := run_storeCells_from (P := Try.prog) p 85 (List.replicate (k + 1) (.pointer none)) 0 cur w hp (by simp [hn]) (fun v hv => by rw [(List.mem_replicate.1 hv).2]; rfl)
    simp only [Builtin.clear_]
    simp [run_underlying Try.underlying82, Value.cells, zeroCells_one, hs]
section
variable {α : Type} {K : Knd α} {w : World} {F : Nat → Prop} {B p : Nat} {ps : List (Option Nat)} {m : List (Option α)}
/-- what a clearing leaves -/
theorem TabAt.clear (h : TabAt K w F B p ps m) : TabAt K ((w.setRow p (List.replicate m.length (Value.pointer none)).toArray).setCell ⟨B, 1, none⟩ (.int .i64 0)) F B p (List.replicate m.length none) (List.replicate m.length none) := by
  have hne := h.ne
  have h0 : (List.replicate m.length (none : Option α)).countP Option.isSome = 0 := List.countP_eq_zero.2 (fun a ha => by rw [(List.mem_replicate.1 ha).2]; simp)
  refine ⟨?_, ?_, by simp, ?_, ?_, ?_, h.fB, h.fp, h.ne, ?_, by simpa using h.cap⟩
  · have t2 : (w.setRow p (List.replicate m.length (Value.pointer none)).toArray).heap[B]? = _ := (setRow_other w p B _ (fun e => hne e.symm)).trans h.top
    rw [heap_setCell_same _ B 1 _ _ _ t2, h0]
    simp
  · rw [heap_setCell_other _ _ p _ hne, setRow_heap w p _ _ _ _ h.row]
    simp [Ytfjgmhghjbikfaa.ptr]
  · intro i hi; rw [List.getElem?_replicate] at hi ⊢; split <;> simp_all
  · intro i x hi; rw [List.getElem?_replicate] at hi; split at hi <;> simp at hi
  · intro i j q hi; rw [List.getElem?_replicate] at hi; split at hi <;> simp at hi
  · intro b hb; have := h.lt b hb; simpa [World.setCell] using this
theorem Mod.setRow {a w : World} {F : Nat → Prop} (h : Mod F a w) {p : Nat} (hp : F p) (cs : Array Value) : Mod F a (w.setRow p cs) :=
  ⟨h.os, h.tape, h.output, by simpa using h.size, fun k hk hf => by
    rw [setRow_other w p k cs (fun e => by subst e; exact hf hp)]; exact h.block k hk hf⟩
end
set_option maxHeartbeats 400000 in
theorem clearC_any (w : World) (F : Nat → Prop) (B : Nat) (m : List (Option Cl)) (h : Tab KC w F B m) :
    Calls Try.prog 45 #[.pointer (some ⟨B, 0, none⟩)] w fun x w' => x = .returned (.tuple #[]) ∧ Tab KC w' F B (List.replicate m.length none) ∧ Ext F w F w' := by
  obtain ⟨p, ps, h⟩ := h
  obtain ⟨c0, c1, f0, f1⟩ := h.cells
  have hcl := fun ty => clear84 w p m.length _ ty h.row (by simp [h.len])
  have HC := hide h.clear
  have HM := hide (((Mod.refl F w).setRow h.fp (List.replicate m.length (Value.pointer none)).toArray).setCell (p := ⟨B, 1, none⟩) (.inl h.fB) (.int .i64 0))
  have d1 : (w.setRow p (List.replicate m.length (Value.pointer none)).toArray).cell? ⟨B, 1, none⟩ = _ := (cell_setRow_other w p _ ⟨B, 1, none⟩ (fun e => h.ne e.symm)).trans c1
  have g1 : (w.setRow p (List.replicate m.length (Value.pointer none)).toArray).frozen? ⟨B, 1, none⟩ = false := frozen_of_row _ B 1 _ _ ((setRow_other w p B _ (fun e => h.ne e.symm)).trans h.top)
  clear h
  generalize m.countP Option.isSome = cnt at *
  generalize hw : w.setRow p (List.replicate m.length (Value.pointer none)).toArray = w1 at *
  clear hw
  generalize List.replicate m.length (none : Option Cl) = mm at *
  generalize List.replicate m.length (none : Option Nat) = pp at *
  generalize m.length = n at *
  go_enter Try.func45, Try.ntmps45
  go_wp2
  go_end0
  exact ⟨rfl, ⟨_, _, HC.out⟩, HM.out, fun _ h => .inl h⟩
end Go.Proofs.Ytfjgmhghjbikfaa
