import Derived.Test.YtbocpmcodlceoaaGreatRows
import Derived.WalkKit
import Derived.ProofKit
import Derived.OpenShut
import Derived.Deep.Slices
import Derived.DeepKeys
import Derived.Laws.StructEq
import Derived.Test.YtbocpmcodlceoaaGreatMD
import Derived.Test.YtbocpmcodlceoaaGreatMQ
namespace Go.Proofs.YtbocpmcodlceoaaGreat
open Go.ChangeShapes Go.WideShapes Go.ChangeAt Go.RowKit Go.Deep
section
variable {H : Type} {enc : TypeId × Value → H} {P : Program} {w : World} {base : Nat} {spare : Nat → Bool} {held : Bool}
theorem int_cell {t : TypeId} {n : Nat} {v : Value} {y : DataW H × List MemPlace} (ht : P.underlying t = some (.int .i64)) (h : DataW.trod enc P w base spare held n t [v] = some y) : ∃ z : Int, v = .int .i64 z := by
  obtain ⟨z, h1, _⟩ := DataW.trod_int ht h
  exact ⟨z, by simpa using h1⟩
end
end Go.Proofs.YtbocpmcodlceoaaGreat

namespace Go.Proofs.YtbocpmcodlceoaaGreat
open Go.ChangeShapes Go.WideShapes Go.ChangeAt Go.RowKit Go.Deep

/-- a step that came in -/
structure Ov where
  kd : Int
  t : Int
  e : Int
  n : Int
  m : Int
  q : Qt
  g : Nat → Nat
  pc : Nat
  on : Bool
def Ov.cells (o : Ov) : List Value := [.int .i64 o.kd, .int .i64 o.t, .int .i64 o.e, .int .i64 o.n, .int .i64 o.m, .int .i64 o.q.f, .int .i64 o.q.e, .int .i64 o.q.x, .int .u32 (o.g 0 : Nat), .int .u32 (o.g 1 : Nat), .int .u32 (o.g 2 : Nat), .int .u32 (o.g 3 : Nat), .int .u32 (o.g 4 : Nat), .int .u32 (o.g 5 : Nat), .int .u32 (o.g 6 : Nat), .int .u32 (o.g 7 : Nat), .int .u32 (o.pc : Nat), .bool o.on]
def Ov.nil : Ov := ⟨0, 0, 0, 0, 0, Qt.zero, fun _ => 0, 0, false⟩
theorem ov_len (v : Ov) : v.cells.length = 18 := rfl
/-- steps that came in -/
def IsOps (w : World) (a : Option Addr) (len : Nat) (O : Nat → Ov) : Prop :=
  ∀ k, k < len → ∃ x, a = some x ∧ ∀ (j : Nat) (v : Value), (O k).cells[j]? = some v → w.cell? ((x.add (k * 18)).add j) = some v
theorem IsOps.below {w w' : World} {a : Option Addr} {len : Nat} {O : Nat → Ov} (h : IsOps w a len O) (hb : Below w.heap.size w w') : IsOps w' a len O := by
  intro k hk
  obtain ⟨x, h1, h2⟩ := h k hk
  refine ⟨x, h1, fun j v hv => ?_⟩
  have h3 := h2 j v hv
  rw [hb.cell (World.block_lt_of_cell? w _ h3)]; exact h3
section
variable {H : Type} {enc : TypeId × Value → H} {w : World} {base : Nat} {spare : Nat → Bool} {held : Bool}
theorem bool_cell {t : TypeId} {n : Nat} {v : Value} {y : DataW H × List MemPlace} (ht : Tryz.prog.underlying t = some .bool) (h : DataW.trod enc Tryz.prog w base spare held n t [v] = some y) : ∃ z : Bool, v = .bool z := by
  obtain ⟨z, h1, _⟩ := DataW.trod_bool ht h
  exact ⟨z, by simpa using h1⟩
theorem u32_cell {t : TypeId} {n : Nat} {v : Value} {y : DataW H × List MemPlace} (ht : Tryz.prog.underlying t = some (.int .u32)) (h : DataW.trod enc Tryz.prog w base spare held n t [v] = some y) : ∃ z : Nat, v = .int .u32 (z : Int) := by
  obtain ⟨z, h1, _, h2⟩ := DataW.trod_int ht h
  have h3 : 0 ≤ z ∧ z ≤ 4294967295 := by simpa [Lit.wf, IntKind.min, IntKind.max, IntKind.signed, IntKind.bits] using h2
  refine ⟨z.toNat, ?_⟩
  simp at h1
  rw [h1, Int.toNat_of_nonneg h3.1]
set_option maxRecDepth 20000 in
theorem open_op {n : Nat} {cs : List Value} {y : DataW H × List MemPlace} (hl : cs.length = 18) (h : DataW.trod enc Tryz.prog w base spare held n 37 cs = some y) : ∃ o : Ov, cs = o.cells := by
  obtain ⟨xs, k, hk, hxy, _, hxl, hf⟩ := DataW.trod_struct Tryz.underlying37 h
  match xs, hxl with
  | [y0, y1, y2, y3, y4, y5, y6, y7], _ =>
    have g0 := hf 0 _ rfl
    have g1 := hf 1 _ rfl
    have g2 := hf 2 _ rfl
    have g3 := hf 3 _ rfl
    have g4 := hf 4 _ rfl
    have g5 := hf 5 _ rfl
    have g6 := hf 6 _ rfl
    have g7 := hf 7 _ rfl
    have e1 : Tryz.prog.cellsOf 3 = 1 := by kernel_rfl
    have e2 : Tryz.prog.cellsOf 4 = 1 := by kernel_rfl
    have e3 : Tryz.prog.cellsOf 30 = 3 := by kernel_rfl
    have e4 : Tryz.prog.cellsOf 35 = 9 := by kernel_rfl
    have e5 : Tryz.prog.cellsOf 32 = 1 := by kernel_rfl
    have e6 : Tryz.prog.cellsOf 33 = 8 := by kernel_rfl
    match cs, hl with
    | [v0, v1, v2, v3, v4, a0, a1, a2, b0, b1, b2, b3, b4, b5, b6, b7, b8, vz], _ =>
      simp [e1, e2, e3, e4] at g0 g1 g2 g3 g4 g5 g6 g7
      obtain ⟨z0, rfl⟩ := int_cell Tryz.underlying3 g0
      obtain ⟨z1, rfl⟩ := int_cell Tryz.underlying3 g1
      obtain ⟨z2, rfl⟩ := int_cell Tryz.underlying3 g2
      obtain ⟨z3, rfl⟩ := int_cell Tryz.underlying3 g3
      obtain ⟨z4, rfl⟩ := int_cell Tryz.underlying3 g4
      obtain ⟨on, rfl⟩ := bool_cell Tryz.underlying4 g7
      obtain ⟨xs, k, hk, hxy, _, hxl, hf⟩ := DataW.trod_struct Tryz.underlying30 g5
      match xs, hxl with
      | [y0, y1, y2], _ =>
        have g0 := hf 0 _ rfl
        have g1 := hf 1 _ rfl
        have g2 := hf 2 _ rfl
        simp [e1] at g0 g1 g2
        obtain ⟨q0, rfl⟩ := int_cell Tryz.underlying3 g0
        obtain ⟨q1, rfl⟩ := int_cell Tryz.underlying3 g1
        obtain ⟨q2, rfl⟩ := int_cell Tryz.underlying3 g2
        obtain ⟨xs, k, hk, hxy, _, hxl, hf⟩ := DataW.trod_struct Tryz.underlying35 g6
        match xs, hxl with
        | [y0, y1], _ =>
          have g0 := hf 0 _ rfl
          have g1 := hf 1 _ rfl
          simp [e5, e6] at g0 g1
          obtain ⟨pc, rfl⟩ := u32_cell Tryz.underlying32 g1
          obtain ⟨xs, k, hk, hxy, _, hxl, hf⟩ := DataW.trod_array Tryz.underlying33 g0
          match xs, hxl with
          | [x0, x1, x2, x3, x4, x5, x6, x7], _ =>
            have d0 := hf 0 (by omega)
            have d1 := hf 1 (by omega)
            have d2 := hf 2 (by omega)
            have d3 := hf 3 (by omega)
            have d4 := hf 4 (by omega)
            have d5 := hf 5 (by omega)
            have d6 := hf 6 (by omega)
            have d7 := hf 7 (by omega)
            simp [e5] at d0 d1 d2 d3 d4 d5 d6 d7
            obtain ⟨r0, rfl⟩ := u32_cell Tryz.underlying32 d0
            obtain ⟨r1, rfl⟩ := u32_cell Tryz.underlying32 d1
            obtain ⟨r2, rfl⟩ := u32_cell Tryz.underlying32 d2
            obtain ⟨r3, rfl⟩ := u32_cell Tryz.underlying32 d3
            obtain ⟨r4, rfl⟩ := u32_cell Tryz.underlying32 d4
            obtain ⟨r5, rfl⟩ := u32_cell Tryz.underlying32 d5
            obtain ⟨r6, rfl⟩ := u32_cell Tryz.underlying32 d6
            obtain ⟨r7, rfl⟩ := u32_cell Tryz.underlying32 d7
            exact ⟨⟨z0, z1, z2, z3, z4, ⟨q0, q1, q2⟩, fun i => [r0, r1, r2, r3, r4, r5, r6, r7].getD i 0, pc, on⟩, rfl⟩
theorem open_ops {fuel : Nat} {cs : List Value} {x : DataW H × List MemPlace} (h : DataW.trod enc Tryz.prog w base spare held fuel 22 cs = some x) :
    ∃ (a : Option Addr) (len cap : Nat) (O : Nat → Ov), cs = [.slice a len cap] ∧ len ≤ maxLen ∧ IsOps w a len O := by
  rcases open_slice Tryz.underlying22 h with ⟨rfl, _⟩ | ⟨a, len, cap, m, n, D, Pl, rfl, hb, hl, hm, hmm, rfl, hx⟩
  · exact ⟨none, 0, 0, fun _ => Ov.nil, rfl, Nat.zero_le _, fun k hk => by omega⟩
  have hlm : len ≤ m := by rw [hmm]; split <;> omega
  have ce : Tryz.prog.cellsOf 37 = 18 := by kernel_rfl
  have each : ∀ i, i < len → ∃ o : Ov, ∀ (j : Nat) (v : Value), o.cells[j]? = some v → w.cell? ((a.add (i * 18)).add j) = some v := by
    intro i hi
    obtain ⟨cs', h1, h2⟩ := hx i (by omega)
    rw [ce] at h1
    obtain ⟨_, hlen, hcell⟩ := World.cells?_some h1
    obtain ⟨o, rfl⟩ := open_op hlen h2
    refine ⟨o, fun j v hv => ?_⟩
    have hj : j < 18 := by have := (List.getElem?_eq_some_iff.1 hv).1; rwa [ov_len] at this
    rw [hcell j hj]; exact hv
  haveI : Inhabited Ov := ⟨Ov.nil⟩
  obtain ⟨O, hO⟩ := choose_lt each
  exact ⟨some a, len, cap, O, rfl, Nat.le_trans hl hm, fun k hk => ⟨a, rfl, hO k hk⟩⟩
end
end Go.Proofs.YtbocpmcodlceoaaGreat

namespace Go.Proofs.YtbocpmcodlceoaaGreat
open Go.ChangeShapes Go.WideShapes Go.ChangeAt Go.RowKit Go.Deep Go.Shelf

/-- a value is equal to itself -/
def Se (d : Nat) (t : TypeId) (v : Value) : Prop := ∀ w, (Op.equalIn d t v v).run Tryz.prog w = .ok true w
theorem se_int {t : TypeId} {k' : IntKind} (h : Tryz.prog.underlying t = some (.int k')) (d : Nat) (k : IntKind) (z : Int) : Se (d + 1) t (.int k z) := fun w => by
  rw [run_equalIn_int w d t k k' z z h]; simp
theorem se_bool {t : TypeId} (h : Tryz.prog.underlying t = some .bool) (d : Nat) (b : Bool) : Se (d + 1) t (.bool b) := fun w => by
  rw [run_equalIn_bool' w d t b b h]; simp
theorem part_cell {t : TypeId} {d : TypeDesc} (hu : Tryz.prog.underlying t = some d) (hd : (match d with | .struct _ | .array _ _ => true | _ => false) = false) {xs : Array Value} {off : Nat} {v : Value} (hx : xs[off]? = some v) (w : World) : (part t xs off).run Tryz.prog w = .ok v w := by
  have hagg : (isAgg t).run Tryz.prog w = .ok false w := by
    unfold isAgg
    rw [Sem.run_bind, run_underlying hu w]
    cases d <;> simp_all
  simp [part, Sem.run_bind, hagg, hx]
theorem part_agg {t : TypeId} {d : TypeDesc} (hu : Tryz.prog.underlying t = some d) (hd : (match d with | .struct _ | .array _ _ => true | _ => false) = true) {n : Nat} (hn : (Tryz.prog.info? t).map (·.size) = some n) {xs ys : Array Value} {off : Nat} (hx : xs.extract off (off + n) = ys) (w : World) : (part t xs off).run Tryz.prog w = .ok (.agg ys) w := by
  have hagg : (isAgg t).run Tryz.prog w = .ok true w := by
    unfold isAgg
    rw [Sem.run_bind, run_underlying hu w]
    cases d <;> simp_all
  cases hq : Tryz.prog.info? t with
  | none => simp [hq] at hn
  | some i =>
    have hs : i.size = n := by simpa [hq] using hn
    simp [part, Sem.run_bind, hagg, sizeOf, typeInfo, hq, hs, hx]
/-- what stands at a place of some cells, and is equal to itself -/
def Pe (d : Nat) (xs : Array Value) (t : TypeId) (off : Nat) : Prop := ∃ v, (∀ w, (part t xs off).run Tryz.prog w = .ok v w) ∧ Se d t v
theorem se_fields (d : Nat) (xs : Array Value) : ∀ fs : List Field, (∀ f ∈ fs, Pe d xs f.type f.offset) → ∀ w, (Op.eqFields d xs xs fs).run Tryz.prog w = .ok true w
  | [], _, w => by simp [Op.eqFields]
  | f :: fs, h, w => by
    obtain ⟨v, h1, h2⟩ := h f List.mem_cons_self
    have h3 := se_fields d xs fs (fun g hg => h g (List.mem_cons_of_mem _ hg)) w
    by_cases hn : f.name = "_"
    · simp [Op.eqFields, hn, h3]
    · simp [Op.eqFields, hn, Sem.run_bind, h1, h2 w, h3]
theorem se_struct {t : TypeId} (ht : Tryz.prog.underlying t = some (.struct (Tryz.prog.fieldsOf t))) (hp : Tryz.prog.stoodInHeld t = false) {ps : List (TypeId × Nat)} (hfs : (Tryz.prog.fieldsOf t).toList.map (fun f => (f.type, f.offset)) = ps) (d : Nat) (xs : Array Value) (h : ∀ p ∈ ps, Pe d xs p.1 p.2) : Se (d + 1) t (.agg xs) := fun w => by
  rw [run_equalIn_struct w d t xs xs ht hp]
  exact se_fields d xs _ (fun f hf => h (f.type, f.offset) (by rw [← hfs]; exact List.mem_map.2 ⟨f, hf, rfl⟩)) w
theorem se_items (d : Nat) (xs : Array Value) (e : TypeId) (c : Nat) : ∀ is : List Nat, (∀ i ∈ is, Pe d xs e (i * c)) → ∀ w, (Op.eqItems d e c xs xs is).run Tryz.prog w = .ok true w
  | [], _, w => by simp [Op.eqItems]
  | i :: is, h, w => by
    obtain ⟨v, h1, h2⟩ := h i List.mem_cons_self
    have h3 := se_items d xs e c is (fun g hg => h g (List.mem_cons_of_mem _ hg)) w
    simp [Op.eqItems, Sem.run_bind, h1, h2 w, h3]
theorem se_array {t e : TypeId} {n c : Nat} (hu : Tryz.prog.underlying t = some (.array n e)) (hi : (Tryz.prog.info? e).map (·.size) = some c) (hc : Tryz.prog.cellsOf e = c) (d : Nat) (xs : Array Value) (h : ∀ i, i < n → Pe d xs e (i * c)) : Se (d + 1) t (.agg xs) := fun w => by
  cases hq : Tryz.prog.info? e with
  | none => simp [hq] at hi
  | some i =>
    rw [run_equalIn_array w d xs xs hu hq, hc]
    exact se_items d xs e c _ (fun i hi => h i (List.mem_range.1 hi)) w
theorem pe_cell {t : TypeId} {k' : IntKind} (hu : Tryz.prog.underlying t = some (.int k')) (d : Nat) {xs : Array Value} {off : Nat} {k : IntKind} {z : Int} (hx : xs[off]? = some (.int k z)) : Pe (d + 1) xs t off := ⟨_, part_cell hu rfl hx, se_int hu d k z⟩
theorem pe_bool {t : TypeId} (hu : Tryz.prog.underlying t = some .bool) (d : Nat) {xs : Array Value} {off : Nat} {b : Bool} (hx : xs[off]? = some (.bool b)) : Pe (d + 1) xs t off := ⟨_, part_cell hu rfl hx, se_bool hu d b⟩
theorem se_quota (d : Nat) (q : Qt) : Se (d + 2) 30 (.agg #[.int .i64 q.f, .int .i64 q.e, .int .i64 q.x]) := by
  refine se_struct (ps := [(3, 0), (3, 1), (3, 2)]) (by kernel_rfl) (by kernel_rfl) (by kernel_rfl) (d + 1) _ (fun p hp => ?_)
  simp only [List.mem_cons, List.not_mem_nil, or_false] at hp
  rcases hp with rfl | rfl | rfl <;> exact pe_cell Tryz.underlying3 d rfl
theorem se_r8 (d : Nat) (g : Nat → Nat) : Se (d + 2) 33 (.agg #[.int .u32 (g 0 : Nat), .int .u32 (g 1 : Nat), .int .u32 (g 2 : Nat), .int .u32 (g 3 : Nat), .int .u32 (g 4 : Nat), .int .u32 (g 5 : Nat), .int .u32 (g 6 : Nat), .int .u32 (g 7 : Nat)]) := by
  refine se_array (c := 1) Tryz.underlying33 (by kernel_rfl) (by kernel_rfl) (d + 1) _ (fun i hi => ?_)
  have : i = 0 ∨ i = 1 ∨ i = 2 ∨ i = 3 ∨ i = 4 ∨ i = 5 ∨ i = 6 ∨ i = 7 := by omega
  rcases this with rfl | rfl | rfl | rfl | rfl | rfl | rfl | rfl <;> exact pe_cell Tryz.underlying32 d rfl
theorem se_regs (d : Nat) (g : Nat → Nat) (pc : Nat) : Se (d + 3) 35 (.agg #[.int .u32 (g 0 : Nat), .int .u32 (g 1 : Nat), .int .u32 (g 2 : Nat), .int .u32 (g 3 : Nat), .int .u32 (g 4 : Nat), .int .u32 (g 5 : Nat), .int .u32 (g 6 : Nat), .int .u32 (g 7 : Nat), .int .u32 (pc : Nat)]) := by
  refine se_struct (ps := [(33, 0), (32, 8)]) (by kernel_rfl) (by kernel_rfl) (by kernel_rfl) (d + 2) _ (fun p hp => ?_)
  simp only [List.mem_cons, List.not_mem_nil, or_false] at hp
  rcases hp with rfl | rfl
  · exact ⟨_, part_agg Tryz.underlying33 rfl (n := 8) (by kernel_rfl) (by simp), se_r8 d g⟩
  · exact pe_cell Tryz.underlying32 (d + 1) rfl
theorem se_env (d : Nat) (e : Er) : Se (d + 4) 46 (.agg e.head.toArray) := by
  refine se_struct (ps := [(3, 0), (3, 1), (3, 2), (3, 3), (3, 4), (4, 5), (35, 6), (30, 15), (30, 18)]) (by kernel_rfl) (by kernel_rfl) (by kernel_rfl) (d + 3) _ (fun p hp => ?_)
  simp only [List.mem_cons, List.not_mem_nil, or_false] at hp
  rcases hp with rfl | rfl | rfl | rfl | rfl | rfl | rfl | rfl | rfl
  · exact pe_cell Tryz.underlying3 (d + 2) rfl
  · exact pe_cell Tryz.underlying3 (d + 2) rfl
  · exact pe_cell Tryz.underlying3 (d + 2) rfl
  · exact pe_cell Tryz.underlying3 (d + 2) rfl
  · exact pe_cell Tryz.underlying3 (d + 2) rfl
  · exact pe_bool Tryz.underlying4 (d + 2) rfl
  · exact ⟨_, part_agg Tryz.underlying35 rfl (n := 9) (by kernel_rfl) (by simp [Er.head]), se_regs d e.rg e.pc⟩
  · exact ⟨_, part_agg Tryz.underlying30 rfl (n := 3) (by kernel_rfl) (by simp [Er.head]), se_quota (d + 1) e.qu⟩
  · exact ⟨_, part_agg Tryz.underlying30 rfl (n := 3) (by kernel_rfl) (by simp [Er.head]), se_quota (d + 1) e.lf⟩
/-- '==' of a value with itself -/
theorem eqlT {t t' : TypeId} (xs : Array Value) (hse : Se 10000 t (.agg xs)) (hm : Tryz.prog.eqGuardType Tryz.prog.depth t = false) {ops : Array Oper} {rest : List Oper} {op : Oper} {a : Act} {w : World} {Q : Exit → Act → World → Prop} (hw : Region.wanted op (yielded ops a.tmps) = true) (x y : Operand) (ho : op.op = .binOp .eql t x y t')
    (hx : a.eval x = .agg xs) (hy : a.eval y = .agg xs) (h : wpList Tryz.prog ops Q rest (a.put op.dst (.bool true)) w) : wpList Tryz.prog ops Q (op :: rest) a w :=
  BigFrame.wpList_want hw fun _ hK => by
    unfold Oper.wp execOp
    simp only [ho, hx, hy, Sem.run_bind, run_eqGuard_agg w .eql t x y xs xs hm, run_eql_struct, hse w, Result.andThen_ok, Sem.run_pure]
    exact hK _ _ h
theorem neqT {t t' : TypeId} (xs : Array Value) (hse : Se 10000 t (.agg xs)) (hm : Tryz.prog.eqGuardType Tryz.prog.depth t = false) {ops : Array Oper} {rest : List Oper} {op : Oper} {a : Act} {w : World} {Q : Exit → Act → World → Prop} (hw : Region.wanted op (yielded ops a.tmps) = true) (x y : Operand) (ho : op.op = .binOp .neq t x y t')
    (hx : a.eval x = .agg xs) (hy : a.eval y = .agg xs) (h : wpList Tryz.prog ops Q rest (a.put op.dst (.bool false)) w) : wpList Tryz.prog ops Q (op :: rest) a w :=
  BigFrame.wpList_want hw fun _ hK => by
    unfold Oper.wp execOp
    simp only [ho, hx, hy, Sem.run_bind, run_eqGuard_agg w .neq t x y xs xs hm, run_neq_struct, hse w, Result.andThen_ok, Sem.run_pure, Bool.not_true]
    exact hK _ _ h
end Go.Proofs.YtbocpmcodlceoaaGreat
