import Derived.Test.YtcbfolpeglfbcaaGK
import Derived.BigQuiet
import Derived.Deep.QuietTactic
namespace Go.Proofs.Ytcbfolpeglfbcaa
open Go.RowKit
/-- a region that draws its order, none of whose steps turns an old block: one walk, in the order of the text -/
theorem region_below {P : Program} {id : Nat} {Q : Exit → Act → World → Prop} {a : Act} {w : World} {l : List Oper} (hm : P.follows .mixedOrders = true) (hB : Region.lexB .any l.toArray = true)
    (h : wpQuiet P l.toArray (fun w' => Below w.heap.size w w') (fun a' => ∀ w', Below w.heap.size w w' → Q .normal a' w') l a) : (Code.region id l.toArray true).wp P Q a w :=
  wp_region_quiet (C := fun w' => Below w.heap.size w w') hm hB (Below.refl _ _).drew (by simpa using h)
theorem calls_below {P : Program} {f : FuncId} {args : Array Value} {w w' : World} {v : Value} (hw : Below w.heap.size w w') (h : Calls P f args w' fun e w'' => e = .returned v ∧ Below w'.heap.size w' w'') :
    Calls P f args w' fun e w'' => e = .returned v ∧ Below w.heap.size w w'' :=
  h.mono fun _ _ ⟨he, hm⟩ => ⟨he, hw.trans (hm.mono hw.size)⟩
theorem qb_load3 {ops : Array Oper} {Q : Act → Prop} {a : Act} {o : Oper} {rest : List Oper} {w : World} (hw : Region.wanted o (yielded ops a.tmps) = true) (x : Operand) (ho : o.op = .load 3 x) (ad : Addr)
    (hx : a.eval x = .pointer (some ad)) (z : Int) (hc : w.cell? ad = some (.int .i64 z)) (a' : Act) (ha : a' = a.put o.dst (.int .i64 z)) (h : wpQuiet Try.prog ops (fun w' => Below w.heap.size w w') Q rest a') :
    wpQuiet Try.prog ops (fun w' => Below w.heap.size w w') Q (o :: rest) a :=
  BigFrame.wpQuiet_want hw fun K hK => ⟨.int .i64 z, fun w' hb => by
    have hc' := cell_up hc hb
    have hv : (loadVar 3 ad).run Try.prog w' = .ok (.int .i64 z) w' := by simp [loadVar, isAgg, run_underlying Try.underlying3, hc', go_sem]
    unfold Oper.quietAt execOp
    simp only [ho, hx, Instr.loadAt, Instr.sureAddr, Sem.run_bind, Sem.run_pure, Result.andThen_ok, hv]
    exact ⟨rfl, rfl⟩, hK _ (ha ▸ h)⟩
theorem qb_load35 {ops : Array Oper} {Q : Act → Prop} {a : Act} {o : Oper} {rest : List Oper} {w : World} (hw : Region.wanted o (yielded ops a.tmps) = true) (x : Operand) (ho : o.op = .load 35 x) (N : Nat)
    (hx : a.eval x = .pointer (some ⟨N, 0, none⟩)) (m : Nat → E) (hc : Sn w N m) (a' : Act) (ha : a' = a.put o.dst (.agg (sc m).toArray)) (h : wpQuiet Try.prog ops (fun w' => Below w.heap.size w w') Q rest a') :
    wpQuiet Try.prog ops (fun w' => Below w.heap.size w w') Q (o :: rest) a :=
  BigFrame.wpQuiet_want hw fun K hK => ⟨.agg (sc m).toArray, fun w' hb => by
    have hr := (hc.below hb).all
    unfold Oper.quietAt execOp
    simp only [ho, hx, Instr.loadAt, Instr.sureAddr, Sem.run_bind, Sem.run_pure, Result.andThen_ok, run_loadVar_mid w' N 0 35 (sc m) _ hr Try.underlying35 rfl (by rw [sc_len]; exact info35)]
    exact ⟨rfl, rfl⟩, hK _ (ha ▸ h)⟩
theorem run_index29 (g n l c : Nat) (h : n < l) (w : World) : (Instr.indexAt 29 (.slice (some ⟨g, 0, none⟩) l c) (.int .i64 (n : Int))).run Try.prog w = .ok (.pointer (some ⟨g, n * 3, none⟩)) w := by
  have h2 : (0 : Int) ≤ n ∧ (n : Int) < (l : Int) := by omega
  have h3 : n < l := h
  simp [Instr.indexAt, run_underlying Try.underlying29, asIntOf, Try.sizeOf50, h3, go_sem]
theorem run_slice29 (g n l c : Nat) (h : n ≤ c) (w : World) : (Instr.sliceAt 29 (.slice (some ⟨g, 0, none⟩) l c) none (some (.int .i64 (n : Int))) none).run Try.prog w = .ok (.slice (some ⟨g, 0, none⟩) n c) w := by
  simp [Instr.sliceAt, Instr.slice, run_underlying Try.underlying29, Instr.sliceBounds, Try.sizeOf50, h, go_sem]
theorem qb_index {ops : Array Oper} {Q : Act → Prop} {C : World → Prop} {a : Act} {o : Oper} {rest : List Oper} (hw : Region.wanted o (yielded ops a.tmps) = true) (x y : Operand) (ho : o.op = .indexAddr 29 x y) (g n l c : Nat)
    (hx : a.eval x = .slice (some ⟨g, 0, none⟩) l c) (hy : a.eval y = .int .i64 (n : Int)) (hn : n < l) (a' : Act) (ha : a' = a.put o.dst (.pointer (some ⟨g, n * 3, none⟩))) (h : wpQuiet Try.prog ops C Q rest a') :
    wpQuiet Try.prog ops C Q (o :: rest) a :=
  BigFrame.wpQuiet_want hw fun K hK => ⟨.pointer (some ⟨g, n * 3, none⟩), fun w' hb => by
    unfold Oper.quietAt execOp
    simp only [ho, hx, hy, Sem.run_bind, Sem.run_pure, Result.andThen_ok, run_index29 g n l c hn]
    exact ⟨rfl, rfl⟩, hK _ (ha ▸ h)⟩
theorem qb_slice {ops : Array Oper} {Q : Act → Prop} {C : World → Prop} {a : Act} {o : Oper} {rest : List Oper} (hw : Region.wanted o (yielded ops a.tmps) = true) (x y : Operand) (ho : o.op = .slice 29 x none (some y) none) (g n l c : Nat)
    (hx : a.eval x = .slice (some ⟨g, 0, none⟩) l c) (hy : a.eval y = .int .i64 (n : Int)) (hn : n ≤ c) (a' : Act) (ha : a' = a.put o.dst (.slice (some ⟨g, 0, none⟩) n c)) (h : wpQuiet Try.prog ops C Q rest a') :
    wpQuiet Try.prog ops C Q (o :: rest) a :=
  BigFrame.wpQuiet_want hw fun K hK => ⟨.slice (some ⟨g, 0, none⟩) n c, fun w' hb => by
    unfold Oper.quietAt execOp
    simp only [ho, hx, hy, Option.map_none, Option.map_some, Sem.run_bind, Sem.run_pure, Result.andThen_ok, run_slice29 g n l c hn]
    exact ⟨rfl, rfl⟩, hK _ (ha ▸ h)⟩
theorem qb_listed {ops : Array Oper} {Q : Act → Prop} {a : Act} {o : Oper} {rest : List Oper} {w : World} (hw : Region.wanted o (yielded ops a.tmps) = true) (x y : Tmp) (ho : o.op = .call { callee := .value (.func 20), args := #[.tmp x, .tmp y], argTypes := #[35, 29] }) (v1 v2 : Value)
    (hx : a.eval (.tmp x) = v1) (hy : a.eval (.tmp y) = v2) (hc : ∀ w', Below w.heap.size w w' → Calls Try.prog 20 #[v1, v2] w' fun e w'' => e = .returned (.bool true) ∧ Below w'.heap.size w' w'') (a' : Act) (ha : a' = a.put o.dst (.bool true)) (h : wpQuiet Try.prog ops (fun w' => Below w.heap.size w w') Q rest a') :
    wpQuiet Try.prog ops (fun w' => Below w.heap.size w w') Q (o :: rest) a :=
  BigFrame.wpQuiet_want hw fun K hK => ⟨.bool true, fun w' hb => by
    have hx' : a.tmps[x]?.getD undef = v1 := by simpa [Act.eval] using hx
    have hy' : a.tmps[y]?.getD undef = v2 := by simpa [Act.eval] using hy
    unfold Oper.quietAt execOp
    simp [ho, resolve, hx', hy', go_sem]
    exact calls_below hb (hc w' hb), hK _ (ha ▸ h)⟩
end Go.Proofs.Ytcbfolpeglfbcaa
