import Derived.Test.YtngmnlmagbfijabBC
namespace Go.Proofs.Ytngmnlmagbfijab
open Go.RowKit
section
variable (w : World)
set_option maxRecDepth 100000 in
set_option maxHeartbeats 1000000 in
theorem scmp_any (bx q pm n : Nat) (k1 k2 l : Int) (f : Int → Option Int) (hb : Bx w bx 79 (.pointer (some ⟨q, 0, none⟩))) (hq : w.heap[q]? = some (.cells #[.map (some pm), .int .i64 l] 81 (0, 0))) (hM : Mp w pm n f) :
    Calls Try.prog 81 #[.int .i64 k1, .int .i64 k2, .pointer (some ⟨bx, 0, none⟩)] w fun e w' => e = .returned (.int .i64 (cm (val f k1) (val f k2))) ∧ Drews w w' := by
  have c0 := cell_of_row _ _ 0 _ _ _ hq
  simp only [List.getElem?_toArray, List.getElem?_cons_zero] at c0
  have d0 := hb.cell
  have l1 := fun t => (hM.keep (w' := w.drewN t) rfl).look1 k1
  have l2 := fun t => (hM.keep (w' := w.drewN t) rfl).look1 k2
  have HC := hide (fun w a b => compare_any w a b)
  rw [show (f k1).getD 0 = val f k1 from rfl] at l1
  rw [show (f k2).getD 0 = val f k2 from rfl] at l2
  clear hb hq hM
  generalize val f k1 = a at *
  generalize val f k2 = b at *
  go_enter Try.func81, Try.ntmps81
  go_upto_region 1 with fail
  go_quiet (first | (go_at_call 82; exact Calls.quiet_of_same (HC.out _ _ _)))
  go_wp2
  go_ret
  exact ⟨rfl, _, rfl⟩
/-- a map that may be nil -/
def Lk (w : World) (mo : Option Nat) (n : Nat) (f : Int → Option Int) : Prop := (mo = none ∧ ∀ k, f k = none) ∨ ∃ pm, mo = some pm ∧ Mp w pm n f
theorem Lk.look {w : World} {mo : Option Nat} {n : Nat} {f : Int → Option Int} (h : Lk w mo n f) (k : Int) : (Instr.lookup 53 (.map mo) (.int .i64 k) false).run Try.prog w = .ok (.int .i64 (val f k)) w := by
  rcases h with ⟨rfl, h⟩ | ⟨pm, rfl, h⟩
  · have := look_nil w k
    unfold val
    rw [h]; exact this
  · exact h.look1 k
theorem Lk.keep {w w' : World} {mo : Option Nat} {n : Nat} {f : Int → Option Int} (h : Lk w mo n f) (hk : ∀ pm, mo = some pm → w'.heap[pm]? = w.heap[pm]?) : Lk w' mo n f := by
  rcases h with h | ⟨pm, h1, h2⟩
  · exact .inl h
  · exact .inr ⟨pm, h1, h2.keep (hk pm h1)⟩
set_option maxRecDepth 100000 in
set_option maxHeartbeats 1000000 in
theorem rcmp_any (bw bx q wm n n2 : Nat) (mo : Option Nat) (k1 k2 : Int) (f g : Int → Option Int) (hb : Bx w bx 82 (.pointer (some ⟨q, 0, none⟩))) (hbw : Bx w bw 53 (.map (some wm))) (hq : w.heap[q]? = some (.cells #[.map mo] 84 (0, 0))) (hM : Mp w wm n f) (hL : Lk w mo n2 g)
    (hr1 : 0 ≤ val f k1 ∧ val f k1 ≤ 8) (hr2 : 0 ≤ val f k2 ∧ val f k2 ≤ 8) (hr3 : 0 ≤ val g k1 ∧ val g k1 ≤ 8388608) (hr4 : 0 ≤ val g k2 ∧ val g k2 ≤ 8388608) :
    Calls Try.prog 87 #[.int .i64 k1, .int .i64 k2, .pointer (some ⟨bw, 0, none⟩), .pointer (some ⟨bx, 0, none⟩)] w fun e w' => e = .returned (.int .i64 (cm (val f k1 + val g k1) (val f k2 + val g k2))) ∧ Drews w w' := by
  have c0 := cell_of_row _ _ 0 _ _ _ hq
  simp only [List.getElem?_toArray, List.getElem?_cons_zero] at c0
  have d0 := hb.cell
  have d1 := hbw.cell
  have l1 := fun t => (hM.keep (w' := w.drewN t) rfl).look1 k1
  have l2 := fun t => (hM.keep (w' := w.drewN t) rfl).look1 k2
  have l3 := fun t => (hL.keep (w' := w.drewN t) (fun _ _ => rfl)).look k1
  have l4 := fun t => (hL.keep (w' := w.drewN t) (fun _ _ => rfl)).look k2
  have HC := hide (fun w a b => compare_any w a b)
  rw [show (f k1).getD 0 = val f k1 from rfl] at l1
  rw [show (f k2).getD 0 = val f k2 from rfl] at l2
  clear hb hq hM hbw hL
  generalize val f k1 = a at *
  generalize val f k2 = b at *
  generalize val g k1 = c at *
  generalize val g k2 = d at *
  have w1 : IntKind.i64.wrap (a + c) = a + c := wi _ (by omega) (by omega)
  have w2 : IntKind.i64.wrap (b + d) = b + d := wi _ (by omega) (by omega)
  go_enter Try.func87, Try.ntmps87
  go_upto_region 1 with fail
  go_quiet (first | (go_at_call 82; exact Calls.quiet_of_same (HC.out _ _ _)))
  go_wp2
  go_ret
  exact ⟨rfl, _, rfl⟩
end
end Go.Proofs.Ytngmnlmagbfijab
