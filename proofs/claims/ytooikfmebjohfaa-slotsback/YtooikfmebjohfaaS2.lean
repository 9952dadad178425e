import Derived.Test.YtooikfmebjohfaaS1
namespace Go.Proofs.Ytooikfmebjohfaa
open Go.RowKit

/-- the table between the steps, and blocks beside it that its calls leave alone -/
def Sb (w wr : World) (B : Nat) (m : List (Option Cl)) (bs : List (Nat × Obj)) : Prop :=
  ∃ F : Nat → Prop, Tab KC wr F B m ∧ (∀ x, F x → w.heap.size ≤ x) ∧ Below w.heap.size w wr ∧ ∀ q ∈ bs, ¬ F q.1 ∧ wr.heap[q.1]? = some q.2
theorem heap_lt {w : World} {b : Nat} {o : Obj} (h : w.heap[b]? = some o) : b < w.heap.size := (Array.getElem?_eq_some_iff.1 h).1
section
variable {w wr w' : World} {B : Nat} {m m' : List (Option Cl)} {bs : List (Nat × Obj)}
theorem Sb.step {F F' : Nat → Prop} (hl : ∀ x, F x → w.heap.size ≤ x) (hb : Below w.heap.size w wr) (hq : ∀ q ∈ bs, ¬ F q.1 ∧ wr.heap[q.1]? = some q.2) (hT : Tab KC w' F' B m') (hE : Ext F wr F' w') : Sb w w' B m' bs :=
  ⟨F', hT, hE.low hl hb.size, hb.trans (hE.mod.below hl hb.size), fun q h => by
    obtain ⟨h1, h2⟩ := hq q h
    have h3 := heap_lt h2
    exact ⟨fun h4 => by rcases hE.new _ h4 with h5 | h5; exact h1 h5; omega, (hE.mod.block _ h3 h1).trans h2⟩⟩
theorem Sb.st (h : Sb w wr B m bs) : St w wr B m := by obtain ⟨F, h1, h2, h3, _⟩ := h; exact ⟨F, h1, h2, h3⟩
theorem St.sb (h : St w wr B m) : Sb w wr B m [] := by obtain ⟨F, h1, h2, h3⟩ := h; exact ⟨F, h1, h2, h3, by simp⟩
theorem Sb.below (h : Sb w wr B m bs) (hb : Below wr.heap.size wr w') : Sb w w' B m bs := by
  obtain ⟨F, hT, hl, hB, hq⟩ := h
  exact ⟨F, hT.below hb, hl, hB.trans (hb.mono hB.size), fun q h => ⟨(hq q h).1, (hb.block _ (heap_lt (hq q h).2)).trans (hq q h).2⟩⟩
theorem Sb.alloc (h : Sb w wr B m bs) (o : Obj) : Sb w (wr.alloc o) B m ((wr.heap.size, o) :: bs) := by
  obtain ⟨F, hT, hl, hB, hq⟩ := h
  refine ⟨F, hT.below ((Below.refl wr.heap.size wr).alloc (Nat.le_refl _) o), hl, hB.trans (((Below.refl wr.heap.size wr).alloc (Nat.le_refl _) o).mono hB.size), fun q h => ?_⟩
  rcases List.mem_cons.1 h with rfl | h
  · exact ⟨fun e => Nat.lt_irrefl _ (hT.lt _ e), heap_alloc_new _ _⟩
  · exact ⟨(hq q h).1, (Below.heap_alloc _ _ _ (heap_lt (hq q h).2)).trans (hq q h).2⟩
theorem Sb.mem (h : Sb w wr B m bs) {b : Nat} {o : Obj} (hm : (b, o) ∈ bs) : wr.heap[b]? = some o := by
  obtain ⟨F, hT, hl, hB, hq⟩ := h; exact (hq _ hm).2
theorem Sb.put (h : Sb w wr B m bs) (c : Cl) :
    Calls Try.prog 31 #[.pointer (some ⟨B, 0, none⟩), c.val] wr fun x w' => (ff m < m.length → x = .returned (.tuple #[.int .i64 (ff m : Nat), .int .i64 0]) ∧ Sb w w' B (m.set (ff m) (some c)) bs) ∧
      (ff m = m.length → x = .returned (.tuple #[.int .i64 (-1), .int .i64 2]) ∧ Sb w w' B m bs) := by
  obtain ⟨F, hT, hl, hB, hq⟩ := h
  refine (putC_any wr F B m hT c).mono ?_
  rintro x w' ⟨h1, h2⟩
  refine ⟨fun e => ?_, fun e => ?_⟩
  · obtain ⟨rfl, F', hT', hE⟩ := h1 e
    exact ⟨rfl, Sb.step hl hB hq hT' hE⟩
  · obtain ⟨rfl, hT', hE⟩ := h2 e
    exact ⟨rfl, Sb.step hl hB hq hT' hE⟩
theorem Sb.drop (h : Sb w wr B m bs) (i : Int) :
    Calls Try.prog 33 #[.pointer (some ⟨B, 0, none⟩), .int .i64 i] wr fun e w' => ∃ v m', e = .returned v ∧ Sb w w' B m' bs ∧
      ((look m i = none ∧ m' = m ∧ v = .tuple #[Cl.zero.val, .bool false]) ∨ ∃ (k : Nat) (x : Cl), i = k ∧ m[k]? = some (some x) ∧ m' = m.set k none ∧ v = .tuple #[x.val, .bool true]) := by
  obtain ⟨F, hT, hl, hB, hq⟩ := h
  refine (dropC_any wr F B m hT i).mono ?_
  rintro _ w' ⟨v, m', rfl, hT', hE, h⟩
  exact ⟨v, m', rfl, Sb.step hl hB hq hT' hE, h⟩
theorem Sb.putAt (h : Sb w wr B m bs) (i : Int) (c : Cl) :
    Calls Try.prog 64 #[.pointer (some ⟨B, 0, none⟩), .int .i64 i, c.val] wr fun x w' => ∃ (v : Int) (m' : List (Option Cl)), x = .returned (.int .i64 v) ∧ Sb w w' B m' bs ∧
      (((i < 0 ∨ (m.length : Int) ≤ i) ∧ v = 30 ∧ m' = m) ∨ (∃ (k : Nat) (x : Cl), i = k ∧ m[k]? = some (some x) ∧ v = 31 ∧ m' = m) ∨ ∃ k : Nat, i = k ∧ m[k]? = some none ∧ v = 0 ∧ m' = m.set k (some c)) := by
  obtain ⟨F, hT, hl, hB, hq⟩ := h
  refine (putAtC_any wr F B m hT i c).mono ?_
  rintro x w' ⟨v, m', F', rfl, hT', hE, h⟩
  exact ⟨v, m', rfl, Sb.step hl hB hq hT' hE, h⟩
end
/-- the cells of a block of three, of four -/
theorem row3 {w : World} {b : Nat} {x0 x1 x2 : Value} {t : TypeId} (h : w.heap[b]? = some (.cells #[x0, x1, x2] t)) :
    b < w.heap.size ∧ w.cell? ⟨b, 0, none⟩ = some x0 ∧ w.cell? ⟨b, 1, none⟩ = some x1 ∧ w.cell? ⟨b, 2, none⟩ = some x2 :=
  ⟨heap_lt h, by rw [cell_of_row _ _ _ _ _ _ h]; rfl, by rw [cell_of_row _ _ _ _ _ _ h]; rfl, by rw [cell_of_row _ _ _ _ _ _ h]; rfl⟩
theorem row4 {w : World} {b : Nat} {x0 x1 x2 x3 : Value} {t : TypeId} (h : w.heap[b]? = some (.cells #[x0, x1, x2, x3] t)) :
    b < w.heap.size ∧ w.cell? ⟨b, 0, none⟩ = some x0 ∧ w.cell? ⟨b, 1, none⟩ = some x1 ∧ w.cell? ⟨b, 2, none⟩ = some x2 ∧ w.cell? ⟨b, 3, none⟩ = some x3 :=
  ⟨heap_lt h, by rw [cell_of_row _ _ _ _ _ _ h]; rfl, by rw [cell_of_row _ _ _ _ _ _ h]; rfl, by rw [cell_of_row _ _ _ _ _ _ h]; rfl, by rw [cell_of_row _ _ _ _ _ _ h]; rfl⟩
theorem look_none_set {α : Type} (m : List (Option α)) (k : Nat) : look (m.set k none) (k : Int) = none := by
  rw [look_nat, List.getElem?_set]
  simp
  split <;> rfl
theorem look_some_set {α : Type} (m : List (Option α)) (k : Nat) (x : α) (h : k < m.length) : look (m.set k (some x)) (k : Int) = some x := by
  rw [look_nat, List.getElem?_set]
  simp [h]
end Go.Proofs.Ytooikfmebjohfaa
