import Derived.Test.YtdeilmllgbajbaaB3
import Derived.BigRegion
import Derived.Deep.RegionHeld
namespace Go.Proofs.Ytdeilmllgbajbaa
open Go.RowKit

def Cl.zero : Cl := ⟨ByteArray.empty, 0, 0⟩
theorem blk3 {w1 : World} {b : Nat} {x0 x1 x2 : Value} {t : TypeId} (h : w1.heap[b]? = some (.cells #[x0, x1, x2] t (0, 0))) :
    w1.cell? ⟨b, 0, none⟩ = some x0 ∧ w1.cell? ⟨b, 1, none⟩ = some x1 ∧ w1.cell? ⟨b, 2, none⟩ = some x2 ∧
    w1.frozen? ⟨b, 0, none⟩ = false ∧ w1.frozen? ⟨b, 1, none⟩ = false ∧ w1.frozen? ⟨b, 2, none⟩ = false :=
  ⟨by rw [cell_of_row _ _ _ _ _ _ h]; rfl, by rw [cell_of_row _ _ _ _ _ _ h]; rfl, by rw [cell_of_row _ _ _ _ _ _ h]; rfl, frozen_of_row _ _ _ _ _ h, frozen_of_row _ _ _ _ _ h, frozen_of_row _ _ _ _ _ h⟩
set_option maxHeartbeats 400000 in
theorem newP_any (w : World) :
    Calls Try.prog 6 #[] w fun x w' => x = .returned (.pointer (some ⟨w.heap.size + 2, 0, none⟩)) ∧ Tie 56 KI64 KCl w' (fun b => b = w.heap.size ∨ b = w.heap.size + 1 ∨ b = w.heap.size + 2) (w.heap.size + 2) [] ∧ Below w.heap.size w w' := by
  have hmm := @run_makeMap Try.prog
  have HB := hide (fun a b c => (((Below.refl w.heap.size w).alloc (Nat.le_refl _) a).alloc (by simp) b).alloc (by simp; omega) c)
  go_enter Try.func6, Try.ntmps6
  go_wp2
  go_ret
  exact ⟨rfl, ⟨_, _, TieAt.fresh 56 KI64 KCl w⟩, HB.out _ _ _⟩
set_option maxHeartbeats 400000 in
theorem lenP_any (w : World) (F : Nat → Prop) (B : Nat) (ps : List (Int × Cl)) (h : Tie 56 KI64 KCl w F B ps) :
    Calls Try.prog 12 #[.pointer (some ⟨B, 0, none⟩)] w fun x w' => x = .returned (.int .i64 (ps.length : Nat)) ∧ w' = w := by
  obtain ⟨r1, r2, h⟩ := h
  obtain ⟨c0, c1⟩ := h.cells
  have hl := map_len (mt := 53) Try.underlying53 h.to
  clear h
  generalize ps.length = n at *
  go_enter Try.func12, Try.ntmps12
  go_wp2
  go_ret
  exact ⟨rfl, rfl⟩
set_option maxHeartbeats 400000 in
theorem newQ_any (w : World) :
    Calls Try.prog 17 #[] w fun x w' => x = .returned (.pointer (some ⟨w.heap.size + 2, 0, none⟩)) ∧ Tie 60 KCl KI64 w' (fun b => b = w.heap.size ∨ b = w.heap.size + 1 ∨ b = w.heap.size + 2) (w.heap.size + 2) [] ∧ Below w.heap.size w w' := by
  have hmm := @run_makeMap Try.prog
  have HB := hide (fun a b c => (((Below.refl w.heap.size w).alloc (Nat.le_refl _) a).alloc (by simp) b).alloc (by simp; omega) c)
  go_enter Try.func17, Try.ntmps17
  go_wp2
  go_ret
  exact ⟨rfl, ⟨_, _, TieAt.fresh 60 KCl KI64 w⟩, HB.out _ _ _⟩
set_option maxHeartbeats 400000 in
theorem lenQ_any (w : World) (F : Nat → Prop) (B : Nat) (ps : List (Cl × Int)) (h : Tie 60 KCl KI64 w F B ps) :
    Calls Try.prog 11 #[.pointer (some ⟨B, 0, none⟩)] w fun x w' => x = .returned (.int .i64 (ps.length : Nat)) ∧ w' = w := by
  obtain ⟨r1, r2, h⟩ := h
  obtain ⟨c0, c1⟩ := h.cells
  have hl := map_len (mt := 54) Try.underlying54 h.to
  clear h
  generalize ps.length = n at *
  go_enter Try.func11, Try.ntmps11
  go_wp2
  go_ret
  exact ⟨rfl, rfl⟩
set_option maxHeartbeats 800000 in
theorem toP_any (w : World) (F : Nat → Prop) (B : Nat) (ps : List (Int × Cl)) (h : Tie 56 KI64 KCl w F B ps) (a : Int) :
    Calls Try.prog 14 #[.pointer (some ⟨B, 0, none⟩), .int .i64 a] w fun x w' => x = .returned (.tuple #[((atK KI64 ps a).getD Cl.zero).val, .bool (atK KI64 ps a).isSome]) ∧ Below w.heap.size w w' := by
  obtain ⟨r1, r2, h⟩ := h
  have hA := fun o => h.keep (w' := w.alloc o) (by simp) (fun b hb => Below.heap_alloc _ _ _ (h.lt b hb))
  have c0 := fun o => (hA o).cells.1
  have c1 := fun o => (hA o).cells.2
  have hl : ∀ o, (Instr.lookup 53 (.map (some r1)) (.int .i64 a) true).run Try.prog (w.alloc o) = _ := fun o => run_look key_int (E := Cl.val) (K := KI64) Try.underlying53 zero28 (hA o).to a
  have HB2 := hide (fun x y => (((Below.refl w.heap.size w).alloc (Nat.le_refl _) x).alloc (by simp) y))
  clear h hA
  cases hq : atK KI64 ps a with
  | some c =>
    rw [hq] at hl
    simp only [Option.map_some, Option.getD_some, Option.isSome_some, Cl.val] at hl ⊢
    clear hq
    go_enter Try.func14, Try.ntmps14
    go_wp2
    go_returns
    exact ⟨rfl, HB2.out _ _⟩
  | none =>
    rw [hq] at hl
    simp only [Option.map_none, Option.getD_none, Option.isSome_none, Cl.val, Cl.zero] at hl ⊢
    clear hq
    go_enter Try.func14, Try.ntmps14
    go_wp2
    go_returns
    exact ⟨rfl, HB2.out _ _⟩
set_option maxHeartbeats 800000 in
theorem backQ_any (w : World) (F : Nat → Prop) (B : Nat) (ps : List (Cl × Int)) (h : Tie 60 KCl KI64 w F B ps) (a : Int) :
    Calls Try.prog 16 #[.pointer (some ⟨B, 0, none⟩), .int .i64 a] w fun x w' => x = .returned (.tuple #[((atK KI64 (ps.map Prod.swap) a).getD Cl.zero).val, .bool (atK KI64 (ps.map Prod.swap) a).isSome]) ∧ Below w.heap.size w w' := by
  obtain ⟨r1, r2, h⟩ := h
  have hA := fun o => h.keep (w' := w.alloc o) (by simp) (fun b hb => Below.heap_alloc _ _ _ (h.lt b hb))
  have c0 := fun o => (hA o).cells.1
  have c1 := fun o => (hA o).cells.2
  have hl : ∀ o, (Instr.lookup 53 (.map (some r2)) (.int .i64 a) true).run Try.prog (w.alloc o) = _ := fun o => run_look key_int (E := Cl.val) (K := KI64) Try.underlying53 zero28 (hA o).back a
  have HB2 := hide (fun x y => (((Below.refl w.heap.size w).alloc (Nat.le_refl _) x).alloc (by simp) y))
  clear h hA
  cases hq : atK KI64 (ps.map Prod.swap) a with
  | some c =>
    rw [hq] at hl
    simp only [Option.map_some, Option.getD_some, Option.isSome_some, Cl.val] at hl ⊢
    clear hq
    go_enter Try.func16, Try.ntmps16
    go_wp2
    go_returns
    exact ⟨rfl, HB2.out _ _⟩
  | none =>
    rw [hq] at hl
    simp only [Option.map_none, Option.getD_none, Option.isSome_none, Cl.val, Cl.zero] at hl ⊢
    clear hq
    go_enter Try.func16, Try.ntmps16
    go_wp2
    go_returns
    exact ⟨rfl, HB2.out _ _⟩
set_option maxHeartbeats 800000 in
theorem backP_any (w : World) (F : Nat → Prop) (B : Nat) (ps : List (Int × Cl)) (h : Tie 56 KI64 KCl w F B ps) (c : Cl) :
    Calls Try.prog 33 #[.pointer (some ⟨B, 0, none⟩), c.val] w fun x w' => x = .returned (.tuple #[.int .i64 ((atK KCl (ps.map Prod.swap) c).getD 0), .bool (atK KCl (ps.map Prod.swap) c).isSome]) ∧ Below w.heap.size w w' := by
  obtain ⟨r1, r2, h⟩ := h
  have hb := (Below.refl w.heap.size w).alloc (Nat.le_refl _) (.cells #[.string c.s, .int .i64 c.a, .int .i64 c.b] 28)
  have h1 := h.keep (w' := w.alloc (.cells #[.string c.s, .int .i64 c.a, .int .i64 c.b] 28)) hb.size (fun b hf => hb.block b (h.lt b hf))
  obtain ⟨c0, c1⟩ := h1.cells
  have hl : (Instr.lookup 54 (.map (some r2)) c.val true).run Try.prog (w.alloc (.cells #[.string c.s, .int .i64 c.a, .int .i64 c.b] 28)).drew = _ := run_look key_cl (E := fun a : Int => Value.int .i64 a) (et := 3) Try.underlying54 zero3 (MapIs.keep (w' := (w.alloc (.cells #[.string c.s, .int .i64 c.a, .int .i64 c.b] 28)).drew) h1.back rfl) c
  obtain ⟨q0, q1, q2, _, _, _⟩ := blk3 (heap_alloc_new w (.cells #[.string c.s, .int .i64 c.a, .int .i64 c.b] 28))
  have HB := hide hb.drew
  have hv : ((atK KCl (ps.map Prod.swap) c).map (fun a : Int => Value.int .i64 a)).getD (.int .i64 0) = .int .i64 ((atK KCl (ps.map Prod.swap) c).getD 0) := by cases atK KCl (ps.map Prod.swap) c <;> rfl
  rw [hv] at hl
  generalize (atK KCl (ps.map Prod.swap) c).getD 0 = tv at *
  generalize (atK KCl (ps.map Prod.swap) c).isSome = bv at *
  simp only [Cl.val] at hl ⊢
  clear h h1 hb hv
  go_enter Try.func33, Try.ntmps33
  go_wp2
  generalize w.alloc (.cells #[.string c.s, .int .i64 c.a, .int .i64 c.b] 28) = w1 at *
  go_region
  all_goals
    go_wp2
    go_ret2
    exact ⟨rfl, HB.out⟩
set_option maxHeartbeats 800000 in
theorem toQ_any (w : World) (F : Nat → Prop) (B : Nat) (ps : List (Cl × Int)) (h : Tie 60 KCl KI64 w F B ps) (c : Cl) :
    Calls Try.prog 15 #[.pointer (some ⟨B, 0, none⟩), c.val] w fun x w' => x = .returned (.tuple #[.int .i64 ((atK KCl ps c).getD 0), .bool (atK KCl ps c).isSome]) ∧ Below w.heap.size w w' := by
  obtain ⟨r1, r2, h⟩ := h
  have hb := (Below.refl w.heap.size w).alloc (Nat.le_refl _) (.cells #[.string c.s, .int .i64 c.a, .int .i64 c.b] 28)
  have h1 := h.keep (w' := w.alloc (.cells #[.string c.s, .int .i64 c.a, .int .i64 c.b] 28)) hb.size (fun b hf => hb.block b (h.lt b hf))
  obtain ⟨c0, c1⟩ := h1.cells
  have hl : (Instr.lookup 54 (.map (some r1)) c.val true).run Try.prog (w.alloc (.cells #[.string c.s, .int .i64 c.a, .int .i64 c.b] 28)).drew = _ := run_look key_cl (E := fun a : Int => Value.int .i64 a) (et := 3) Try.underlying54 zero3 (MapIs.keep (w' := (w.alloc (.cells #[.string c.s, .int .i64 c.a, .int .i64 c.b] 28)).drew) h1.to rfl) c
  obtain ⟨q0, q1, q2, _, _, _⟩ := blk3 (heap_alloc_new w (.cells #[.string c.s, .int .i64 c.a, .int .i64 c.b] 28))
  have HB := hide hb.drew
  have hv : ((atK KCl ps c).map (fun a : Int => Value.int .i64 a)).getD (.int .i64 0) = .int .i64 ((atK KCl ps c).getD 0) := by cases atK KCl ps c <;> rfl
  rw [hv] at hl
  generalize (atK KCl ps c).getD 0 = tv at *
  generalize (atK KCl ps c).isSome = bv at *
  simp only [Cl.val] at hl ⊢
  clear h h1 hb hv
  go_enter Try.func15, Try.ntmps15
  go_wp2
  generalize w.alloc (.cells #[.string c.s, .int .i64 c.a, .int .i64 c.b] 28) = w1 at *
  go_region
  all_goals
    go_wp2
    go_ret2
    exact ⟨rfl, HB.out⟩
end Go.Proofs.Ytdeilmllgbajbaa
