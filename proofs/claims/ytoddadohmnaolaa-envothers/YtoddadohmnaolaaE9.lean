import Derived.Test.YtoddadohmnaolaaE8
import Derived.Deep.MidRow
import Derived.ProofKit
import Derived.Deep.Slices
namespace Go.Proofs.Ytoddadohmnaolaa
open Go.ChangeShapes Go.WideShapes Go.ChangeAt Go.RowKit Go.Deep

theorem heap_setCells_other (b k : Nat) (hk : k ≠ b) : ∀ (vs : List Value) (o : Nat) (w : World), (w.setCells b o vs).heap[k]? = w.heap[k]?
  | [], _, _ => rfl
  | v :: r, o, w => by
    rw [World.setCells, heap_setCells_other b k hk r (o + 1) _, heap_setCell_other _ _ _ _ hk]
theorem setCells_rest (b : Nat) : ∀ (vs : List Value) (o : Nat) (w : World), (w.setCells b o vs).os = w.os ∧ (w.setCells b o vs).tape = w.tape ∧ (w.setCells b o vs).output = w.output ∧ (w.setCells b o vs).heap.size = w.heap.size
  | [], _, _ => ⟨rfl, rfl, rfl, rfl⟩
  | v :: r, o, w => by
    obtain ⟨h1, h2, h3, h4⟩ := setCells_rest b r (o + 1) (w.setCell ⟨b, o, none⟩ v)
    rw [World.setCells]
    exact ⟨h1, h2, h3, by rw [h4]; simp [World.setCell]⟩
/-- a row of cells set at a place -/
def setsL (cs : List Value) : Nat → List Value → List Value
  | _, [] => cs
  | o, v :: r => setsL (cs.set o v) (o + 1) r
theorem heap_setCells_row (b t : Nat) : ∀ (vs : List Value) (o : Nat) (w : World) (cs : List Value), w.heap[b]? = some (.cells cs.toArray t (0, 0)) → (w.setCells b o vs).heap[b]? = some (.cells (setsL cs o vs).toArray t (0, 0))
  | [], _, _, _, h => h
  | v :: r, o, w, cs, h => by
    rw [World.setCells]
    refine heap_setCells_row b t r (o + 1) _ (cs.set o v) ?_
    rw [heap_setCell_same _ b o _ _ v h]
    simp
theorem below_setCells {B : Nat} {a w : World} (h : Below B a w) {b : Nat} (hb : B ≤ b) (o : Nat) (vs : List Value) : Below B a (w.setCells b o vs) := by
  induction vs generalizing w o with
  | nil => exact h
  | cons v r ih => rw [World.setCells]; exact ih (h.setCell (p := ⟨b, o, none⟩) hb _) _
theorem At.sets {w w' : World} {b : Nat} (h : At w b w') (o : Nat) (vs : List Value) : At w b (w'.setCells b o vs) := by
  induction vs generalizing w' o with
  | nil => exact h
  | cons v r ih => rw [World.setCells]; exact ih (h.set o v) _
/-- a struct loaded out of whatever address -/
theorem loadT {t : TypeId} {d : TypeDesc} (hu : Try.prog.underlying t = some d) (hd : (match d with | .struct _ | .array _ _ => true | _ => false) = true) (cs : List Value) (hi : (Try.prog.info? t).map (·.size) = some cs.length) {ops : Array Oper} {rest : List Oper} {op : Oper} {a : Act} {w : World} {Q : Exit → Act → World → Prop} (hw : Region.wanted op (yielded ops a.tmps) = true) (x : Operand) (ho : op.op = .load t x) (ad : Addr)
    (hx : a.eval x = .pointer (some ad)) (hc : ∀ (j : Nat) (v : Value), cs[j]? = some v → w.cell? (ad.add j) = some v) (h : wpList Try.prog ops Q rest (a.put op.dst (.agg cs.toArray)) w) : wpList Try.prog ops Q (op :: rest) a w :=
  BigFrame.wpList_want hw fun _ hK => by
    have hl : (loadCells ad cs.length).run Try.prog w = .ok cs.toArray w := run_loadCells_list w ad cs hc
    have hv : (loadVar t ad).run Try.prog w = .ok (.agg cs.toArray) w := by
      cases hq : Try.prog.info? t with
      | none => simp [hq] at hi
      | some i =>
        have hs : i.size = cs.length := by simpa [hq] using hi
        have hagg : (isAgg t).run Try.prog w = .ok true w := by
          unfold isAgg
          rw [Sem.run_bind, run_underlying hu w]
          cases d <;> simp_all
        simp [loadVar, Sem.run_bind, hagg, sizeOf, typeInfo, hq, hs, hl]
    unfold Oper.wp execOp
    simp only [ho, hx, Instr.loadAt, Instr.sureAddr, Sem.run_bind, Sem.run_pure, Result.andThen_ok, hv]
    exact hK _ _ h
theorem storeT {t : TypeId} (vs : List Value) (hi : (Try.prog.info? t).map (·.size) = some vs.length) (h1 : ∀ u ∈ vs, u.oneCell' = true) {ops : Array Oper} {rest : List Oper} {op : Oper} {a : Act} {w : World} {Q : Exit → Act → World → Prop} (hw : Region.wanted op (yielded ops a.tmps) = true) (x y : Operand) (ho : op.op = .store t x y) (N o : Nat)
    (hx : a.eval x = .pointer (some ⟨N, o, none⟩)) (hy : a.eval y = .agg vs.toArray) {ty : TypeId} (cs : List Value) (hc : w.heap[N]? = some (.cells cs.toArray ty (0, 0))) (hl : o + vs.length ≤ cs.length) (h : wpList Try.prog ops Q rest (a.put op.dst undef) (w.setCells N o vs)) : wpList Try.prog ops Q (op :: rest) a w :=
  BigFrame.wpList_want hw fun _ hK => wp_store_mid t x y ho N o vs.toArray hx hy (fun j hj => by
    rw [List.size_toArray] at hj
    refine ⟨?_, frozen_of_row _ _ _ _ _ hc⟩
    rw [cell_of_row _ _ _ _ _ _ hc]
    have hlt : o + j < cs.length := by omega
    simp [hlt]) (by rw [List.size_toArray]; exact hi) (all_oneCell_toArray h1) (hK _ _ h)
/-- what is told of a record: its first cells -/
def Er.head (e : Er) : List Value :=
  [.int .i64 e.se, .int .i64 e.pa, .int .i64 e.st, .int .i64 e.co, .int .i64 e.bi, .bool e.fz, .int .u32 (e.rg 0 : Nat), .int .u32 (e.rg 1 : Nat), .int .u32 (e.rg 2 : Nat), .int .u32 (e.rg 3 : Nat), .int .u32 (e.rg 4 : Nat), .int .u32 (e.rg 5 : Nat), .int .u32 (e.rg 6 : Nat), .int .u32 (e.rg 7 : Nat), .int .u32 (e.pc : Nat),
   .int .i64 e.qu.f, .int .i64 e.qu.e, .int .i64 e.qu.x, .int .i64 e.lf.f, .int .i64 e.lf.e, .int .i64 e.lf.x]
def Er.told (e : Er) : Er := { e with lf := e.le }
def Er.nil : Er := Er.new 0 0 Qt.zero
theorem head_len (e : Er) : e.head.length = 21 := rfl
theorem head_one (e : Er) : ∀ u ∈ e.head, u.oneCell' = true := by
  intro u hu
  simp [Er.head] at hu
  rcases hu with rfl | rfl | rfl | rfl | rfl | rfl | rfl | rfl | rfl | rfl | rfl | rfl | rfl | rfl | rfl | rfl | rfl | rfl | rfl | rfl | rfl <;> rfl
theorem infoE : (Try.prog.info? 41).map (·.size) = some 21 := by kernel_rfl
/-- an api.Env at block N -/
structure Eb (w : World) (N : Nat) (e : Er) : Prop where
  out : w.heap[N]? = some (.cells e.head.toArray 41 (0, 0))
section
variable {w w' : World} {N : Nat} {e : Er}
theorem Eb.get (h : Eb w N e) {j : Nat} {v : Value} (hv : e.head[j]? = some v) : w.cell? ⟨N, j, none⟩ = some v := by
  rw [cell_of_row _ _ _ _ _ _ h.out]; simpa using hv
theorem Eb.lt (h : Eb w N e) : N < w.heap.size := (Array.getElem?_eq_some_iff.1 h.out).1
theorem Eb.keep (h : Eb w N e) (hk : w'.heap[N]? = w.heap[N]?) : Eb w' N e := ⟨hk.trans h.out⟩
theorem Eb.new (w : World) (e : Er) : Eb (w.alloc (.cells e.head.toArray 41)) w.heap.size e := ⟨heap_alloc_new _ _⟩
theorem Eb.lay (h : Eb w N e) (e' : Er) : Eb (w.setCells N 0 e'.head) N e' := by
  have h1 := heap_setCells_row N 41 e'.head 0 w _ h.out
  rw [show setsL e.head 0 e'.head = e'.head by simp only [Er.head, setsL, List.set]] at h1
  exact ⟨h1⟩
end
theorem add_nat (b j : Nat) : (⟨b, 0, none⟩ : Addr).add j = ⟨b, j, none⟩ := by
  by_cases hj : j = 0
  · subst hj; rfl
  · simp [Addr.add, hj]
theorem Rb.hcell {w : World} {b : Nat} {e : Er} (h : Rb w b e) (j : Nat) (v : Value) (hv : e.head[j]? = some v) : w.cell? ((⟨b, 0, none⟩ : Addr).add j) = some v := by
  have hj : j < 21 := by have := (List.getElem?_eq_some_iff.1 hv).1; rwa [head_len] at this
  have hc : e.cells[j]? = some v := by
    rw [show e.cells = e.head ++ [.int .i64 e.pd.f, .int .i64 e.pd.e, .int .i64 e.pd.x, .int .i64 e.le.f, .int .i64 e.le.e, .int .i64 e.le.x] from rfl, List.getElem?_append_left (by rw [head_len]; exact hj)]; exact hv
  rw [add_nat]
  exact h.get hc
theorem Eb.hcell {w : World} {b : Nat} {e : Er} (h : Eb w b e) (j : Nat) (v : Value) (hv : e.head[j]? = some v) : w.cell? ((⟨b, 0, none⟩ : Addr).add j) = some v := by
  rw [add_nat]
  exact h.get hv
end Go.Proofs.Ytoddadohmnaolaa
