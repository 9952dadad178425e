import Derived.MapKept
import Derived.Laws.Cover2
import Derived.RangeFuncRecord
import Derived.Deep.RegionHeld
import Derived.Test.YtiafodeabdhcoaaGreatDoorM00
import Derived.Test.YtiafodeabdhcoaaGreatDoorM03
import Derived.Test.YtiafodeabdhcoaaGreatDoorM04
namespace Go.Proofs.YtiafodeabdhcoaaGreatDoor
open Go.RowKit
/-- the keys of a map: their type, how they lie, when two are one -/
structure Cod (α : Type) where
  t : TypeId
  enc : α → Value
  eqb : α → α → Bool
/-- block r is a map with these pairs, in this order -/
def MapIs {α β : Type} (w : World) (r : Nat) (K : Cod α) (E : β → Value) (ps : List (α × β)) : Prop :=
  ∃ (es : Array MapEntry) (clock : Nat), w.heap[r]? = some (.map es clock) ∧ es.toList.map (fun e => (e.key, e.val)) = ps.map (fun p => (K.enc p.1, E p.2))
/-- what a key's type must do -/
structure KeyOk {α : Type} (K : Cod α) : Prop where
  same : ∀ a b, K.eqb a b = true ↔ a = b
  check : ∀ (em : Bool) (a : α) (w : World), (Instr.checkKey em 10000 K.t (K.enc a)).run Tryz.prog w = .ok () w
  find : ∀ (a : α) (es : List MapEntry) (ks : List α) (w : World), es.map (·.key) = ks.map K.enc →
    (Instr.findKey K.t (K.enc a) es).run Tryz.prog w = .ok ((ks.findIdx? (K.eqb a)).map (fun i => (i, ((es[i]?).map (·.val)).getD undef))) w
def KS : Cod Tx := ⟨9, fun s => .string ⟨s.toArray⟩, fun a b => a == b⟩
theorem findNow_str (a : Tx) : ∀ (es : List MapEntry) (ks : List Tx) (i : Nat), es.map (·.key) = ks.map (fun a => Value.string ⟨a.toArray⟩) →
    Instr.findNow .string (.string ⟨a.toArray⟩) es i = some ((ks.findIdx? (fun k => a == k)).map (fun j => (i + j, ((es[j]?).map (·.val)).getD undef)))
  | [], [], i, _ => rfl
  | [], _ :: _, _, h => by simp at h
  | _ :: _, [], _, h => by simp at h
  | e :: es, k :: ks, i, h => by
    simp only [List.map_cons, List.cons.injEq] at h
    obtain ⟨h1, h2⟩ := h
    rw [Instr.findNow, h1]
    simp only [Instr.sameNow]
    have hq : ((⟨a.toArray⟩ : ByteArray) == (⟨k.toArray⟩ : ByteArray)) = (a == k) := by
      rw [beq_toListBytes, Lib.toList_data, Lib.toList_data]
    cases hk : (a == k) with
    | true => simp [List.findIdx?_cons, hk, hq]
    | false =>
      simp only [hq, hk]
      rw [findNow_str a es ks (i + 1) h2, List.findIdx?_cons, hk]
      simp only [Bool.false_eq_true, if_false, Option.map_map]
      congr 1
      congr 1
      funext j
      simp [Nat.add_assoc, Nat.add_comm 1 j]
theorem key_str : KeyOk KS := by
  refine ⟨fun a b => by simp [KS], fun em a w => ?_, fun a es ks w h => ?_⟩
  · show (Instr.checkKey em (9999 + 1) 9 (.string ⟨a.toArray⟩)).run Tryz.prog w = _
    unfold Instr.checkKey
    simp [run_underlying Tryz.underlying9]
  · have := findNow_str a es ks 0 h
    simp only [Nat.zero_add] at this
    simp only [Instr.findKey, KS, Sem.run_bind, run_underlying Tryz.underlying9, Result.andThen_ok, this]
    rfl
section
variable {α β : Type} {K : Cod α} {E : β → Value} {w : World} {r : Nat} {ps : List (α × β)}
/-- the element at a -/
def atK (K : Cod α) (ps : List (α × β)) (a : α) : Option β := (ps.find? (fun p => K.eqb a p.1)).map Prod.snd
theorem keys_of {l : List MapEntry} (h : l.map (fun e => (e.key, e.val)) = ps.map (fun p => (K.enc p.1, E p.2))) : l.map (·.key) = (ps.map Prod.fst).map K.enc := by
  have := congrArg (List.map Prod.fst) h
  rw [List.map_map, List.map_map] at this
  rw [List.map_map]
  exact this
theorem findIdx_at (a : α) : ∀ (ps : List (α × β)) (l : List MapEntry), l.map (fun e => (e.key, e.val)) = ps.map (fun p => (K.enc p.1, E p.2)) →
    ((ps.map Prod.fst).findIdx? (K.eqb a)).map (fun i => ((l[i]?).map (·.val)).getD undef) = (atK K ps a).map E
  | [], [], _ => rfl
  | [], _ :: _, h => by simp at h
  | _ :: _, [], h => by simp at h
  | p :: t, e :: l, h => by
    simp only [List.map_cons, List.cons.injEq, Prod.mk.injEq] at h
    obtain ⟨⟨h1, h2⟩, h3⟩ := h
    have ih := findIdx_at a t l h3
    unfold atK at ih ⊢
    rw [List.map_cons, List.findIdx?_cons, List.find?_cons]
    cases hp : K.eqb a p.1 with
    | true => simp [h2]
    | false =>
      simp only [Bool.false_eq_true, if_false, Option.map_map]
      rw [Option.map_map] at ih
      rw [← ih]
      congr 1
theorem run_look (hK : KeyOk K) {mt et : TypeId} {z : Value} (hm : Tryz.prog.underlying mt = some (.map K.t et)) (hz : ∀ w, (zeroValue et).run Tryz.prog w = .ok z w) (h : MapIs w r K E ps) (a : α) :
    (Instr.lookup mt (.map (some r)) (K.enc a) true).run Tryz.prog w = .ok (.tuple #[((atK K ps a).map E).getD z, .bool (atK K ps a).isSome]) w := by
  obtain ⟨es, clock, hb, hes⟩ := h
  have hf := hK.find a es.toList (ps.map Prod.fst) w (keys_of hes)
  have hi := findIdx_at (K := K) (E := E) a ps es.toList hes
  have hg : (getObj r).run Tryz.prog w = .ok (.map es clock) w := MapKept.run_getObj_map hb
  cases hx : (ps.map Prod.fst).findIdx? (K.eqb a) with
  | none =>
    rw [hx] at hf hi
    have hn : atK K ps a = none := by cases hq : atK K ps a with
      | none => rfl
      | some b => rw [hq] at hi; cases hi
    simp [Instr.lookup, run_underlying hm, hg, hK.check, hf, hz, hn]
  | some i =>
    rw [hx] at hf hi
    simp only [Option.map_some] at hf hi
    cases hq : atK K ps a with
    | none => rw [hq] at hi; cases hi
    | some b =>
      rw [hq] at hi
      simp only [Option.map_some, Option.some.injEq] at hi
      rw [hi] at hf
      simp [Instr.lookup, run_underlying hm, hg, hK.check, hf]
theorem find_none (hK : KeyOk K) {a : α} (hn : atK K ps a = none) {l : List MapEntry} (hes : l.map (fun e => (e.key, e.val)) = ps.map (fun p => (K.enc p.1, E p.2))) (w : World) : (Instr.findKey K.t (K.enc a) l).run Tryz.prog w = .ok none w := by
  have hf := hK.find a l (ps.map Prod.fst) w (keys_of hes)
  have hi := findIdx_at (K := K) (E := E) a ps l hes
  rw [hn] at hi
  cases hx : (ps.map Prod.fst).findIdx? (K.eqb a) with
  | none => rw [hx] at hf; exact hf
  | some i => rw [hx] at hi; cases hi
/-- a store at a new key -/
theorem run_push (hK : KeyOk K) {mt et : TypeId} (hm : Tryz.prog.underlying mt = some (.map K.t et)) (h : MapIs w r K E ps) (a : α) (b : β) (hn : atK K ps a = none) :
    ∃ es clock, (Instr.mapUpdate mt (.map (some r)) (K.enc a) (E b)).run Tryz.prog w = .ok () (w.putObj r (.map es clock)) ∧ MapIs (w.putObj r (.map es clock)) r K E (ps ++ [(a, b)]) := by
  obtain ⟨es, clock, hb, hes⟩ := h
  have hg : (getObj r).run Tryz.prog w = .ok (.map es clock) w := MapKept.run_getObj_map hb
  have hf := find_none (E := E) hK hn hes w
  refine ⟨es.push { key := K.enc a, val := E b, born := clock }, clock + 1, ?_, es.push { key := K.enc a, val := E b, born := clock }, clock + 1, World.putObj_heap_same (Array.getElem?_eq_some_iff.1 hb).1, ?_⟩
  · have hs := fun o => MapKept.run_setObj_map (P := Tryz.prog) o hb
    simp [Instr.mapUpdate, run_underlying hm, hg, hK.check, hf, hs, World.putObj]
  · simp [hes]
theorem run_look1 (hK : KeyOk K) {mt et : TypeId} {z : Value} (hm : Tryz.prog.underlying mt = some (.map K.t et)) (hz : ∀ w, (zeroValue et).run Tryz.prog w = .ok z w) (h : MapIs w r K E ps) (a : α) :
    (Instr.lookup mt (.map (some r)) (K.enc a) false).run Tryz.prog w = .ok (((atK K ps a).map E).getD z) w := by
  obtain ⟨es, clock, hb, hes⟩ := h
  have hf := hK.find a es.toList (ps.map Prod.fst) w (keys_of hes)
  have hi := findIdx_at (K := K) (E := E) a ps es.toList hes
  have hg : (getObj r).run Tryz.prog w = .ok (.map es clock) w := MapKept.run_getObj_map hb
  cases hx : (ps.map Prod.fst).findIdx? (K.eqb a) with
  | none =>
    rw [hx] at hf hi
    have hn : atK K ps a = none := by cases hq : atK K ps a with
      | none => rfl
      | some b => rw [hq] at hi; cases hi
    simp [Instr.lookup, run_underlying hm, hg, hK.check, hf, hz, hn]
  | some i =>
    rw [hx] at hf hi
    simp only [Option.map_some] at hf hi
    cases hq : atK K ps a with
    | none => rw [hq] at hi; cases hi
    | some b =>
      rw [hq] at hi
      simp only [Option.map_some, Option.some.injEq] at hi
      rw [hi] at hf
      simp [Instr.lookup, run_underlying hm, hg, hK.check, hf]
end
/-- a mark: its line, the words ahead of it -/
def mkE (m : Nat × Int) : Value := .agg #[.int .i64 (m.1 : Nat), .int .i64 m.2]
/-- the labels of lines: each with its first line -/
def Lb (w : World) (r : Nat) (ps : List (Tx × (Nat × Int))) : Prop := MapIs w r KS mkE ps
theorem Lb.keep {w w' : World} {r : Nat} {ps : List (Tx × (Nat × Int))} (h : Lb w r ps) (hb : Below w.heap.size w w') : Lb w' r ps := by
  obtain ⟨es, c, h1, h2⟩ := h
  exact ⟨es, c, by rw [hb.block r (Array.getElem?_eq_some_iff.1 h1).1]; exact h1, h2⟩
theorem lookT {w : World} {r : Nat} {ps : List (Tx × (Nat × Int))} (h : Lb w r ps) (a : Tx) : (Instr.lookup 104 (.map (some r)) (.string ⟨a.toArray⟩) true).run Tryz.prog w = .ok (.tuple #[((atK KS ps a).map mkE).getD (.agg #[.int .i64 0, .int .i64 0]), .bool (atK KS ps a).isSome]) w :=
  run_look key_str Tryz.underlying104 Tryz.zeroValue139 h a
theorem lookF {w : World} {r : Nat} {ps : List (Tx × (Nat × Int))} (h : Lb w r ps) (a : Tx) : (Instr.lookup 104 (.map (some r)) (.string ⟨a.toArray⟩) false).run Tryz.prog w = .ok (((atK KS ps a).map mkE).getD (.agg #[.int .i64 0, .int .i64 0])) w :=
  run_look1 key_str Tryz.underlying104 Tryz.zeroValue139 h a
end Go.Proofs.YtiafodeabdhcoaaGreatDoor

namespace Go.Proofs.YtiafodeabdhcoaaGreatDoor
open Go.RowKit
section
variable {P : Program} {ops : Array Oper} {Q : Exit → Act → World → Prop} {S : World → Prop} {fuel : Nat} {listed : Array Bool} {a : Act} {w : World}
/-- a store of a whole struct, the one operation that may come up -/
theorem held_store (i : Nat) {o : Oper} (hr : Region.ready .any ops listed = [i]) (ho : ops[i]? = some o) (hw : Region.wanted o (yielded ops a.tmps) = true) {ty : TypeId} {x y : Operand} (hop : o.op = .store ty x y) (hd : o.dst = none)
    {b off : Nat} {cells : List Value} (hx : a.eval x = .pointer (some ⟨b, off, none⟩)) (hy : a.eval y = .agg cells.toArray) (ht : w.there b off cells.length) (hi : (P.info? ty).map (·.size) = some cells.length) (h1 : ∀ v ∈ cells, v.oneCell' = true)
    (hS : S (w.setCells b off cells)) (h : wpAnyH P .any ops Q S fuel (listed.setIfInBounds i true) a (w.setCells b off cells)) : wpAnyH P .any ops Q S (fuel + 1) listed a w := by
  refine wpAnyH_ready hr (by simp) (AllReadyH.cons ho (fun K hK => ?_) AllReadyH.nil)
  rw [if_pos hw]
  refine wp_store_mid ty x y hop b off cells.toArray hx hy (by simpa using ht) (by simpa using hi) (all_oneCell_toArray h1) ?_
  rw [hd]
  exact hK.out _ _ hS (fun _ => h)
/-- a call, the one operation that may come up -/
theorem held_call (i : Nat) {o : Oper} (hr : Region.ready .any ops listed = [i]) (ho : ops[i]? = some o) (hw : Region.wanted o (yielded ops a.tmps) = true)
    (h : ∀ K : Act → World → Prop, (∀ a w, S w → wpAnyH P .any ops Q S fuel (listed.setIfInBounds i true) a w → K a w) → Oper.wp P o a w K Q) : wpAnyH P .any ops Q S (fuel + 1) listed a w := by
  refine wpAnyH_ready hr (by simp) (AllReadyH.cons ho (fun K hK => ?_) AllReadyH.nil)
  rw [if_pos hw]
  exact h K (fun a w hS hh => hK.out a w hS (fun _ => hh))
theorem held_load (i : Nat) {o : Oper} (hs : Region.noSelect ops = true) (hf : Region.free .any ops listed i = true) (hr : (Region.ready .any ops listed).contains i = true) (ho : ops[i]? = some o) (hw : Region.wanted o (yielded ops a.tmps) = true) {ty : TypeId} {x : Operand} (hop : o.op = .load ty x)
    {b off : Nat} (cs : List Value) {d : TypeDesc} (hx : a.eval x = .pointer (some ⟨b, off, none⟩)) (hS : ∀ w, S w → w.rangeAt b off cs) (hu : P.underlying ty = some d) (hd : d.isRow = true) (hi : (P.info? ty).map (·.size) = some cs.length)
    (hQ : ∀ c a w, Q (.panic c) (a.put o.dst (.agg cs.toArray)) w → Q (.panic c) a w) (h0 : S w) (h : wpAnyH P .any ops Q S fuel (listed.setIfInBounds i true) (a.put o.dst (.agg cs.toArray)) w) : wpAnyH P .any ops Q S (fuel + 1) listed a w :=
  wpAnyH_take ho hs hf hr hQ (yieldsIf_load_mid hw ty x hop b off hx cs d hS hu hd hi) h0 h
/-- what yields in whatever world -/
theorem held_take (i : Nat) {o : Oper} (v : Value) (hs : Region.noSelect ops = true) (hf : Region.free .any ops listed i = true) (hr : (Region.ready .any ops listed).contains i = true) (ho : ops[i]? = some o) (hw : Region.wanted o (yielded ops a.tmps) = true)
    (hy : ∀ w, S w → (execOp a.eval o).run P w = .ok (.value v) w)
    (hQ : ∀ c a w, Q (.panic c) (a.put o.dst v) w → Q (.panic c) a w) (h0 : S w) (h : wpAnyH P .any ops Q S fuel (listed.setIfInBounds i true) (a.put o.dst v) w) : wpAnyH P .any ops Q S (fuel + 1) listed a w :=
  wpAnyH_take ho hs hf hr hQ (Or.inl ⟨hw, hy⟩) h0 h
end
end Go.Proofs.YtiafodeabdhcoaaGreatDoor

namespace Go.Proofs.YtiafodeabdhcoaaGreatDoor
open Go.RowKit
section
variable {P : Program} {ops : Array Oper} {Q : Exit → Act → World → Prop} {S : World → Prop} {fuel : Nat} {listed : Array Bool} {a : Act} {w : World}
theorem hd_call (i : Nat) {o : Oper} (hr : Region.ready .any ops listed = [i]) (ho : ops[i]? = some o) (hw : Region.wanted o (yielded ops a.tmps) = true)
    (h : ∀ K : Act → World → Prop, (∀ a w, S w → wpAnyH P .any ops Q S fuel (listed.setIfInBounds i true) a w → K a w) → Oper.wp P o a w K Q) : wpAnyH P .any ops Q S (fuel + 1) listed a w := held_call i hr ho hw h
theorem hd_take (i : Nat) {o : Oper} (v : Value) (hs : Region.noSelect ops = true) (hf : Region.free .any ops listed i = true) (hr : (Region.ready .any ops listed).contains i = true) (ho : ops[i]? = some o) (hw : Region.wanted o (yielded ops a.tmps) = true)
    (hy : ∀ w, S w → (execOp a.eval o).run P w = .ok (.value v) w)
    (hQ : ∀ c a w, Q (.panic c) (a.put o.dst v) w → Q (.panic c) a w) (h0 : S w) (h : wpAnyH P .any ops Q S fuel (listed.setIfInBounds i true) (a.put o.dst v) w) : wpAnyH P .any ops Q S (fuel + 1) listed a w := held_take i v hs hf hr ho hw hy hQ h0 h
theorem hd_both (i j : Nat) {o1 o2 : Oper} (hr : Region.ready .any ops listed = [i, j]) (ho1 : ops[i]? = some o1) (ho2 : ops[j]? = some o2) (hw1 : Region.wanted o1 (yielded ops a.tmps) = true) (hw2 : Region.wanted o2 (yielded ops a.tmps) = true)
    (h1 : ∀ K : Act → World → Prop, (∀ a w, S w → wpAnyH P .any ops Q S fuel (listed.setIfInBounds i true) a w → K a w) → Oper.wp P o1 a w K Q)
    (h2 : ∀ K : Act → World → Prop, (∀ a w, S w → wpAnyH P .any ops Q S fuel (listed.setIfInBounds j true) a w → K a w) → Oper.wp P o2 a w K Q) : wpAnyH P .any ops Q S (fuel + 1) listed a w := by
  refine wpAnyH_ready hr (by simp) (AllReadyH.cons ho1 (fun K hK => ?_) (AllReadyH.cons ho2 (fun K hK => ?_) AllReadyH.nil))
  · rw [if_pos hw1]; exact h1 K (fun a w hS hh => hK.out a w hS (fun _ => hh))
  · rw [if_pos hw2]; exact h2 K (fun a w hS hh => hK.out a w hS (fun _ => hh))
theorem hd_three (i j k : Nat) {o1 o2 o3 : Oper} (hr : Region.ready .any ops listed = [i, j, k]) (ho1 : ops[i]? = some o1) (ho2 : ops[j]? = some o2) (ho3 : ops[k]? = some o3) (hw1 : Region.wanted o1 (yielded ops a.tmps) = true) (hw2 : Region.wanted o2 (yielded ops a.tmps) = true) (hw3 : Region.wanted o3 (yielded ops a.tmps) = true)
    (h1 : ∀ K : Act → World → Prop, (∀ a w, S w → wpAnyH P .any ops Q S fuel (listed.setIfInBounds i true) a w → K a w) → Oper.wp P o1 a w K Q)
    (h2 : ∀ K : Act → World → Prop, (∀ a w, S w → wpAnyH P .any ops Q S fuel (listed.setIfInBounds j true) a w → K a w) → Oper.wp P o2 a w K Q)
    (h3 : ∀ K : Act → World → Prop, (∀ a w, S w → wpAnyH P .any ops Q S fuel (listed.setIfInBounds k true) a w → K a w) → Oper.wp P o3 a w K Q) : wpAnyH P .any ops Q S (fuel + 1) listed a w := by
  refine wpAnyH_ready hr (by simp) (AllReadyH.cons ho1 (fun K hK => ?_) (AllReadyH.cons ho2 (fun K hK => ?_) (AllReadyH.cons ho3 (fun K hK => ?_) AllReadyH.nil)))
  · rw [if_pos hw1]; exact h1 K (fun a w hS hh => hK.out a w hS (fun _ => hh))
  · rw [if_pos hw2]; exact h2 K (fun a w hS hh => hK.out a w hS (fun _ => hh))
  · rw [if_pos hw3]; exact h3 K (fun a w hS hh => hK.out a w hS (fun _ => hh))
end
theorem run_loadT {t : TypeId} {d : TypeDesc} (hu : Tryz.prog.underlying t = some d) (hd : (match d with | .struct _ | .array _ _ => true | _ => false) = true) (cs : List Value) (hi : (Tryz.prog.info? t).map (·.size) = some cs.length) {op : Oper} {a : Act} {w : World} (x : Operand) (ho : op.op = .load t x) (ad : Addr)
    (hx : a.eval x = .pointer (some ad)) (hc : ∀ (j : Nat) (v : Value), cs[j]? = some v → w.cell? (ad.add j) = some v) : (execOp a.eval op).run Tryz.prog w = .ok (.value (.agg cs.toArray)) w := by
  have hl : (loadCells ad cs.length).run Tryz.prog w = .ok cs.toArray w := run_loadCells_list w ad cs hc
  have hv : (loadVar t ad).run Tryz.prog w = .ok (.agg cs.toArray) w := by
    cases hq : Tryz.prog.info? t with
    | none => simp [hq] at hi
    | some i =>
      have hs : i.size = cs.length := by simpa [hq] using hi
      have hagg : (isAgg t).run Tryz.prog w = .ok true w := by
        unfold isAgg
        rw [Sem.run_bind, run_underlying hu w]
        cases d <;> simp_all
      simp [loadVar, Sem.run_bind, hagg, sizeOf, typeInfo, hq, hs, hl]
  unfold execOp
  simp only [ho, hx, Instr.loadAt, Instr.sureAddr, Sem.run_bind, Sem.run_pure, Result.andThen_ok, hv]
section
variable {P : Program} {ops : Array Oper} {Q : Exit → Act → World → Prop} {S : World → Prop} {fuel : Nat} {listed : Array Bool} {a : Act} {w : World}
theorem hd_skip (i : Nat) {o : Oper} (hs : Region.noSelect ops = true) (hf : Region.free .any ops listed i = true) (hr : (Region.ready .any ops listed).contains i = true) (ho : ops[i]? = some o) (hw : Region.wanted o (yielded ops a.tmps) = false)
    (hQ : ∀ c a w, Q (.panic c) (a.put o.dst undef) w → Q (.panic c) a w) (h0 : S w) (h : wpAnyH P .any ops Q S fuel (listed.setIfInBounds i true) (a.put o.dst undef) w) : wpAnyH P .any ops Q S (fuel + 1) listed a w :=
  wpAnyH_take ho hs hf hr hQ (Or.inr ⟨hw, rfl⟩) h0 h
end
theorem wp_storeB {t : TypeId} (vs : List Value) (hi : (Tryz.prog.info? t).map (·.size) = some vs.length) (h1 : vs.all (fun u => u.oneCell') = true) {op : Oper} {a : Act} {w : World} {K : Act → World → Prop} {Q : Exit → Act → World → Prop} (x y : Operand) (ho : op.op = .store t x y) (N : Nat)
    (hx : a.eval x = .pointer (some ⟨N, 0, none⟩)) (hy : a.eval y = .agg vs.toArray) {T : TypeId} (cs : List Value) (hc : Blk w N T cs) (hl : cs.length = vs.length) (h : K (a.put op.dst undef) (putB w N vs T)) : op.wp Tryz.prog a w K Q :=
  wp_store_mid t x y ho N 0 vs.toArray hx hy (fun j hj => by
    rw [List.size_toArray] at hj
    refine ⟨?_, hc.frz _⟩
    rw [cell_of_row _ _ _ _ _ _ hc.out]
    have hlt : j < cs.length := by omega
    simp [hlt]) (by rw [List.size_toArray]; exact hi) (all_oneCell_toArray (by simpa using h1)) (by rw [set_all w N T cs vs hc.out hl]; exact h)
end Go.Proofs.YtiafodeabdhcoaaGreatDoor

namespace Go.Proofs.YtiafodeabdhcoaaGreatDoor
open Go.RowKit
/-- where the parts of a reader lie: tokens, variables, the map of places -/
structure Fx where
  ao : Option Addr
  c : Nat
  av : Option Addr
  cv : Nat
  mp : Nat
  ps : List (Tx × Nat)
def vrL (v : Vr) : List Value := [.string ⟨v.name.toArray⟩, .bool v.arr, .int .i64 (v.size : Nat), .int .i64 (v.at' : Nat)]
def rdL (F : Fx) (n : Nat) (r : Rd) : List Value := [.slice F.ao n F.c, .int .i64 (r.at' : Nat), .int .i64 (r.form : Nat), .int .i64 (r.nam : Nat), .int .i64 (r.dat : Nat), .int .i64 (r.dep : Nat), .slice F.av r.vars.length F.cv, .map (some F.mp), .int .i64 (r.words : Nat), .int .i64 (r.blocks : Nat), .int .i64 (r.loops : Nat)]
def pE (n : Nat) : Value := .int .i64 (n : Nat)
theorem add_blk (a : Addr) (n : Nat) : (a.add n).block = a.block := by unfold Addr.add; split <;> rfl
theorem putB_cell {w : World} {N : Nat} {vs : List Value} {T : TypeId} {x : Addr} (h : x.block ≠ N) : (putB w N vs T).cell? x = w.cell? x := World.cell?_of_block (putB_other w N vs T h)
/-- a row in another block stays -/
theorem RwK.keepK {W W' : World} {ao : Option Addr} {k g : Nat} {α : Type} {f : α → List Value} {l : List α} (h : RwK W ao k f l) (hb : Kp g W W') (hg : ∀ a, ao = some a → a.block ≠ g) : RwK W' ao k f l := fun i hi => by
  obtain ⟨a, h1, h2⟩ := h i hi
  refine ⟨a, h1, fun j v hv => ?_⟩
  have h3 := h2 j v hv
  rw [← h3]
  refine World.cell?_of_block (hb.block _ (cell_blk h3) ?_)
  rw [add_blk, add_blk]
  exact hg a h1
theorem MapIs.keepK {α β : Type} {W W' : World} {r g : Nat} {K : Cod α} {E : β → Value} {ps : List (α × β)} (h : MapIs W r K E ps) (hb : Kp g W W') (hg : r ≠ g) : MapIs W' r K E ps := by
  obtain ⟨es, c, h1, h2⟩ := h
  exact ⟨es, c, by rw [hb.block r (Array.getElem?_eq_some_iff.1 h1).1 hg]; exact h1, h2⟩
/-- the tokens end with one that is none -/
def TkOk (ts : List Tk) : Prop := ∀ i (h : i < ts.length), i + 1 = ts.length → ts[i].kind ≤ 1 ∧ ts[i].text = []
/-- a reader -/
structure RdA (w : World) (g : Nat) (ts : List Tk) (F : Fx) (r : Rd) : Prop where
  b : Blk w g 77 (rdL F ts.length r)
  ro : RwK w F.ao 4 tkL ts
  ra : ∀ a, F.ao = some a → a.block ≠ g
  vo : RwK w F.av 4 vrL r.vars
  va : ∀ a, F.av = some a → a.block ≠ g
  mo : MapIs w F.mp KS pE F.ps
  ma : F.mp ≠ g
  mv : ∀ s, match atK KS F.ps s with | none => r.find s = none | some n => ∃ h : n < r.vars.length, r.find s = some r.vars[n]
  ok : TkOk ts
  hat : r.at' < ts.length
  len : ts.length ≤ 16385
section
variable {w w' : World} {g : Nat} {ts : List Tk} {F : Fx} {r r' : Rd}
theorem RdA.to (h : RdA w g ts F r) (hk : Kp g w w') (hb : Blk w' g 77 (rdL F ts.length r')) (hv : r'.vars = r.vars) (ha : r'.at' < ts.length) : RdA w' g ts F r' where
  b := hb
  ro := h.ro.keepK hk h.ra
  ra := h.ra
  vo := by rw [hv]; exact h.vo.keepK hk h.va
  va := h.va
  mo := h.mo.keepK hk h.ma
  ma := h.ma
  mv := fun s => by
    have := h.mv s
    unfold Rd.find at this ⊢
    rw [hv]
    split
    · next e => rw [e] at this; exact this
    · next n e =>
      rw [e] at this
      obtain ⟨h1, h2⟩ := this
      exact ⟨h1, h2⟩
  ok := h.ok
  hat := ha
  len := h.len
theorem RdA.keep (h : RdA w g ts F r) (hb : Below w.heap.size w w') : RdA w' g ts F r := h.to (Kp.of hb) (h.b.below hb h.b.lt) rfl h.hat
/-- a token that is one is not the last -/
theorem RdA.more (h : RdA w g ts F r) (ht : 2 ≤ (r.see ts).kind ∨ (r.see ts).text ≠ []) : r.at' + 1 < ts.length ∧ r.form = 0 ∧ r.see ts = ts[r.at']'h.hat := by
  have hf : r.form = 0 := by
    cases e : r.form with
    | zero => rfl
    | succ n =>
      have : r.see ts = tk0 := by unfold Rd.see; rw [if_pos (by rw [e]; exact Nat.succ_ne_zero n)]
      rw [this] at ht
      rcases ht with h1 | h1
      · exact absurd h1 (by decide)
      · exact absurd rfl h1
  have hs : r.see ts = ts[r.at']'h.hat := by unfold Rd.see; rw [if_neg (by simp [hf]), List.getElem?_eq_getElem h.hat]; rfl
  refine ⟨?_, hf, hs⟩
  have h1 := h.hat
  by_cases e : r.at' + 1 = ts.length
  · have := h.ok r.at' h1 e
    rw [← hs] at this
    rcases ht with h2 | h2
    · omega
    · exact absurd this.2 h2
  · omega
end
section
variable (w : World)
set_option maxRecDepth 100000 in
set_option maxHeartbeats 1000000 in
theorem see_any (g : Nat) (ts : List Tk) (F : Fx) (r : Rd) (h : RdA w g ts F r) : Calls Tryz.prog 54 #[.pointer (some ⟨g, 0, none⟩)] w fun e w' => e = .returned (.agg (tkL (r.see ts)).toArray) ∧ Below w.heap.size w w' := by
  have c0 := h.b.get (j := 0) rfl
  have c1 := h.b.get (j := 1) rfl
  have c2 := h.b.get (j := 2) rfl
  have hgl := h.b.lt
  have hK0 := Blk.new w (tkL tk0) 115
  have hbw := bel1 w (.cells (tkL tk0).toArray 115)
  by_cases hf : r.form = 0
  · have hat := h.hat
    obtain ⟨a, ha, hca⟩ := h.ro r.at' hat
    have hs : r.see ts = ts[r.at'] := by unfold Rd.see; rw [if_neg (by simp [hf]), List.getElem?_eq_getElem hat]; rfl
    have HS := hide hs
    have HCa := hide hca
    have hati : (r.at' : Int) < (ts.length : Int) := by omega
    rw [hf] at c2
    rw [ha] at c0
    clear h hf hs ha hca
    generalize ts[r.at'] = t at *
    go_enter Tryz.func54, Tryz.ntmps54
    go_upto_region 3 with fail
    change Code.wp _ _ _ _ (w.alloc (.cells #[.int .i64 0, .string ⟨#[]⟩, .int .u32 0, .int .i64 0] 115))
    have d0 : (w.alloc (.cells (tkL tk0).toArray 115)).cell? ⟨g, 0, none⟩ = _ := (hbw.cell (p := ⟨g, 0, none⟩) hgl).trans c0
    have d1 : (w.alloc (.cells (tkL tk0).toArray 115)).cell? ⟨g, 1, none⟩ = _ := (hbw.cell (p := ⟨g, 1, none⟩) hgl).trans c1
    have HD : Hid (∀ (j : Nat) (v : Value), (tkL t)[j]? = some v → (w.alloc (.cells (tkL tk0).toArray 115)).cell? ((a.add (r.at' * 4)).add j) = some v) := hide (fun j v hv => by rw [hbw.cell (cell_blk (HCa.out j v hv))]; exact HCa.out j v hv)
    have HA : Hid (a.block < w.heap.size) := hide (by have := cell_blk (HCa.out 0 _ rfl); rwa [add_blk, add_blk] at this)
    change Code.wp _ _ _ _ (w.alloc (.cells (tkL tk0).toArray 115))
    generalize w.alloc (.cells (tkL tk0).toArray 115) = W1 at *
    obtain ⟨w0, hwD⟩ : ∃ wD, wD = W1.drew := ⟨_, rfl⟩
    have HK : Hid (Blk w0 w.heap.size 115 (tkL tk0)) := by rw [hwD]; exact hide (hK0.below (Below.refl _ W1).drew hK0.lt)
    have HB : Hid (Below w.heap.size w w0) := by rw [hwD]; exact hide (hbw.drew)
    have HS0 : Hid ((fun W => W.cell? ⟨g, 0, none⟩ = some (.slice (some a) ts.length F.c) ∧ W.cell? ⟨g, 1, none⟩ = some (.int .i64 (r.at' : Nat)) ∧ ∀ (j : Nat) (v : Value), (tkL t)[j]? = some v → W.cell? ((a.add (r.at' * 4)).add j) = some v) w0) := by rw [hwD]; exact hide (⟨d0, d1, HD.out⟩)
    have HS1 : Hid ((fun W => W.cell? ⟨g, 0, none⟩ = some (.slice (some a) ts.length F.c) ∧ W.cell? ⟨g, 1, none⟩ = some (.int .i64 (r.at' : Nat)) ∧ ∀ (j : Nat) (v : Value), (tkL t)[j]? = some v → W.cell? ((a.add (r.at' * 4)).add j) = some v) (putB w0 w.heap.size (tkL t) 115)) := hide ⟨(putB_cell (by show g ≠ _; omega)).trans HS0.out.1, (putB_cell (by show g ≠ _; omega)).trans HS0.out.2.1, fun j v hv => (putB_cell (by rw [add_blk, add_blk]; have := HA.out; omega)).trans (HS0.out.2.2 j v hv)⟩
    refine wp_region_held_drew (S := fun W => W.cell? ⟨g, 0, none⟩ = some (.slice (some a) ts.length F.c) ∧ W.cell? ⟨g, 1, none⟩ = some (.int .i64 (r.at' : Nat)) ∧ ∀ (j : Nat) (v : Value), (tkL t)[j]? = some v → W.cell? ((a.add (r.at' * 4)).add j) = some v) (by kernel_rfl) (by rw [← hwD]; exact HS0.out) (fun hHeld => ?_)
    rw [← hwD]
    clear hwD hHeld hK0 hbw d0 d1 HD c0 c1 c2 HCa
    refine hd_take 0 (o := ⟨some 10, _, _, _, _, _⟩) (.pointer (some ⟨g, 0, none⟩)) (by kernel_rfl) (by kernel_rfl) (by kernel_rfl) rfl (by rfl) (fun W hSw => by go_simp) (fun _ _ _ h => h) HS0.out ?_
    simp only [Act.put, List.setIfInBounds_toArray, List.set_cons_zero, List.set_cons_succ]
    refine hd_take 1 (o := ⟨some 11, _, _, _, _, _⟩) (.pointer (some ⟨g, 0, none⟩)) (by kernel_rfl) (by kernel_rfl) (by kernel_rfl) rfl (by rfl) (fun W hSw => by go_simp) (fun _ _ _ h => h) HS0.out ?_
    simp only [Act.put, List.setIfInBounds_toArray, List.set_cons_zero, List.set_cons_succ]
    refine hd_take 2 (o := ⟨some 12, _, _, _, _, _⟩) (.pointer (some ⟨g, 0, none⟩)) (by kernel_rfl) (by kernel_rfl) (by kernel_rfl) rfl (by rfl) (fun W hSw => by go_simp) (fun _ _ _ h => h) HS0.out ?_
    simp only [Act.put, List.setIfInBounds_toArray, List.set_cons_zero, List.set_cons_succ]
    refine hd_take 3 (o := ⟨some 13, _, _, _, _, _⟩) (.slice (some a) ts.length F.c) (by kernel_rfl) (by kernel_rfl) (by kernel_rfl) rfl (by rfl) (fun W hSw => by have k := hSw.1; go_simp) (fun _ _ _ h => h) HS0.out ?_
    simp only [Act.put, List.setIfInBounds_toArray, List.set_cons_zero, List.set_cons_succ]
    refine hd_take 4 (o := ⟨some 14, _, _, _, _, _⟩) (.pointer (some ⟨g, 0, none⟩)) (by kernel_rfl) (by kernel_rfl) (by kernel_rfl) rfl (by rfl) (fun W hSw => by go_simp) (fun _ _ _ h => h) HS0.out ?_
    simp only [Act.put, List.setIfInBounds_toArray, List.set_cons_zero, List.set_cons_succ]
    refine hd_take 5 (o := ⟨some 15, _, _, _, _, _⟩) (.pointer (some ⟨g, 0, none⟩)) (by kernel_rfl) (by kernel_rfl) (by kernel_rfl) rfl (by rfl) (fun W hSw => by go_simp) (fun _ _ _ h => h) HS0.out ?_
    simp only [Act.put, List.setIfInBounds_toArray, List.set_cons_zero, List.set_cons_succ]
    refine hd_take 6 (o := ⟨some 16, _, _, _, _, _⟩) (.pointer (some ⟨g, 1, none⟩)) (by kernel_rfl) (by kernel_rfl) (by kernel_rfl) rfl (by rfl) (fun W hSw => by go_simp) (fun _ _ _ h => h) HS0.out ?_
    simp only [Act.put, List.setIfInBounds_toArray, List.set_cons_zero, List.set_cons_succ]
    refine hd_take 7 (o := ⟨some 17, _, _, _, _, _⟩) ((.int .i64 (r.at' : Nat))) (by kernel_rfl) (by kernel_rfl) (by kernel_rfl) rfl (by rfl) (fun W hSw => by have k := hSw.2.1; go_simp) (fun _ _ _ h => h) HS0.out ?_
    simp only [Act.put, List.setIfInBounds_toArray, List.set_cons_zero, List.set_cons_succ]
    refine hd_take 8 (o := ⟨some 18, _, _, _, _, _⟩) (.pointer (some (a.add (r.at' * 4)))) (by kernel_rfl) (by kernel_rfl) (by kernel_rfl) rfl (by rfl) (fun W hSw => by go_simp) (fun _ _ _ h => h) HS0.out ?_
    simp only [Act.put, List.setIfInBounds_toArray, List.set_cons_zero, List.set_cons_succ]
    refine hd_take 9 (o := ⟨some 19, _, _, _, _, _⟩) (.agg (tkL t).toArray) (by kernel_rfl) (by kernel_rfl) (by kernel_rfl) rfl (by rfl) (fun W hSw => by exact run_loadT Tryz.underlying115 rfl (tkL t) info_tk _ rfl (a.add (r.at' * 4)) rfl hSw.2.2) (fun _ _ _ h => h) HS0.out ?_
    simp only [Act.put, List.setIfInBounds_toArray, List.set_cons_zero, List.set_cons_succ]
    refine hd_call 10 (o := ⟨none, _, _, _, _, _⟩) (by kernel_rfl) rfl (by rfl) (fun K' hK => ?_)
    refine wp_storeB (tkL t) info_tk rfl _ _ rfl w.heap.size rfl rfl _ HK.out rfl ?_
    refine hK _ _ HS1.out ?_
    clear hK K'
    try simp only [Act.put]
    refine wpAnyH_done (by kernel_rfl) ?_ _
    go_wp2
    refine bodyPost_ret (results_cell_row rfl _ _ w.heap.size 115 (tkL t).toArray (0, 0) _ rfl (HK.out.put _).out Tryz.underlying115 rfl info_tk) rfl ?_
    exact ⟨by rw [HS.out], putB_below HB.out (Nat.le_refl _) _ _⟩
  · have hs : r.see ts = tk0 := by unfold Rd.see; rw [if_pos hf]
    have HS := hide hs
    have hfb : ((r.form : Int) != 0) = true := by simpa using hf
    have HK := hide hK0
    have HB := hide hbw
    clear h hf hs hK0 hbw
    generalize r.form = z at *
    go_enter Tryz.func54, Tryz.ntmps54
    go_wp2_with (refine storeB [.int .i64 0, .string ⟨#[]⟩, .int .u32 0, .int .i64 0] info_tk rfl rfl _ _ rfl w.heap.size rfl rfl _ HK.out rfl ?_)
    refine bodyPost_ret (results_cell_row rfl _ _ w.heap.size 115 (List.toArray [.int .i64 0, .string ⟨#[]⟩, .int .u32 0, .int .i64 0]) (0, 0) _ rfl (HK.out.put _).out Tryz.underlying115 rfl info_tk) rfl ?_
    exact ⟨by rw [HS.out]; rfl, putB_below HB.out (Nat.le_refl _) _ _⟩
end
end Go.Proofs.YtiafodeabdhcoaaGreatDoor

namespace Go.Proofs.YtiafodeabdhcoaaGreatDoor
open Go.RowKit
structure Cd.Ok (c : Cd) : Prop where
  t : c.text.length ≤ 1000000000
  w : c.words ≤ 1000000000
  l : c.labels ≤ 1000000000
structure Cd.Le (a b : Cd) : Prop where
  t : a.text.length ≤ b.text.length
  w : a.words ≤ b.words
  l : a.labels ≤ b.labels
theorem Cd.Le.refl (a : Cd) : a.Le a := ⟨Nat.le_refl _, Nat.le_refl _, Nat.le_refl _⟩
theorem Cd.Le.trans {a b c : Cd} (h : a.Le b) (k : b.Le c) : a.Le c := ⟨Nat.le_trans h.t k.t, Nat.le_trans h.w k.w, Nat.le_trans h.l k.l⟩
theorem Cd.Le.ok {a b : Cd} (h : a.Le b) (k : b.Ok) : a.Ok := ⟨Nat.le_trans h.t k.t, Nat.le_trans h.w k.w, Nat.le_trans h.l k.l⟩
theorem le_put (s : Cd) (L : List Tx) : s.Le (s.put L) := ⟨by simp [Cd.put], by simp [Cd.put], Nat.le_refl _⟩
theorem le_lab (s : Cd) (t : Tx) : s.Le (s.lab t) := ⟨by simp [Cd.lab], Nat.le_refl _, Nat.le_refl _⟩
theorem le_pair (s : Cd) : s.Le s.pair := ⟨Nat.le_refl _, Nat.le_refl _, Nat.le_succ _⟩
section
variable (w : World) (g : Nat) (s : Cd)
theorem putk_any (b : ByteArray) (L : List Tx) (hb : b.data.toList = semJ L) (h0 : L ≠ []) (hs : ∀ p ∈ L, (59 : UInt8) ∉ p) (h : CdAt w g s) (hG : Lyb g w) (ho : (s.put L).Ok) : Calls Tryz.prog 32 #[.pointer (some ⟨g, 0, none⟩), .string b] w fun e w' => e = .returned (.tuple #[]) ∧ CdAt w' g (s.put L) ∧ Kc g w w' ∧ Lyb g w' :=
  (put_any w g s b L hb h0 hs h hG ho.t (by have := ho.w; simpa [Cd.put] using this)).mono fun _ _ ⟨h1, h2, h3⟩ => ⟨h1, h2, h3, hG.kc h3⟩
set_option maxHeartbeats 1000000 in
set_option maxRecDepth 100000 in
theorem lab_any (b : ByteArray) (t : Tx) (hb : b.data.toList = t) (h : CdAt w g s) (hG : Lyb g w) (ho : (s.lab t).Ok) : Calls Tryz.prog 35 #[.pointer (some ⟨g, 0, none⟩), .string b] w fun e w' => e = .returned (.tuple #[]) ∧ CdAt w' g (s.lab t) ∧ Kc g w w' ∧ Lyb g w' := by
  rw [bytes_eq hb]
  have hl : s.text.length + (t ++ [58, 10]).length ≤ 1000000000 := by have := ho.t; simpa [Cd.lab] using this
  have hl2 : t.length ≤ 1000000000 := by simp at hl; omega
  have H := hide h
  have HG := hide hG
  clear h hb
  go_enter Tryz.func35, Tryz.ntmps35
  go_wp2_with fail
  refine (cdw_b w g s _ (t ++ [58, 10]) ?hb H.out (by omega)).mono ?_
  case hb => simp [ByteArray.data_append]
  rintro e w2 ⟨⟨v, rfl⟩, h1, h2⟩
  have H1 := hide h1
  have H2 := hide h2
  clear h1 h2 H
  go_wp2
  go_end0
  exact ⟨rfl, H1.out, H2.out, HG.out.kc H2.out⟩
set_option maxHeartbeats 1000000 in
set_option maxRecDepth 100000 in
theorem pair_any (h : CdAt w g s) (hG : Lyb g w) (ho : s.pair.Ok) : Calls Tryz.prog 121 #[.pointer (some ⟨g, 0, none⟩)] w fun e w' => e = .returned (.string ⟨s.name.toArray⟩) ∧ CdAt w' g s.pair ∧ Kc g w w' ∧ Lyb g w' := by
  have hl : s.labels + 1 ≤ 1000000000 := ho.l
  obtain ⟨c3, f3⟩ := h.cell (j := 3) (x := .int .i64 (s.labels : Nat)) (fun _ _ => rfl)
  have hca : ((s.labels : Nat) : Int) + 1 = ((s.labels + 1 : Nat) : Int) := by omega
  have H1 : Hid (CdAt (w.setCell ⟨g, 3, none⟩ (.int .i64 ((s.labels : Int) + 1))) g s.pair) := hide (h.store 3 _ (fun p v => by rw [hca]; rfl) rfl)
  have H2 : Hid (Kc g w (w.setCell ⟨g, 3, none⟩ (.int .i64 ((s.labels : Int) + 1)))) := hide ((Kc.refl g w).store 3 _)
  have HG := hide (hG.kc H2.out)
  have HN : Hid (Lib.itoa ((s.labels : Int) + 1) = s.name) := hide (by rw [hca, ← nuT_eq]; rfl)
  have hwr : IntKind.i64.wrap ((s.labels : Int) + 1) = (s.labels : Int) + 1 := by rw [IntKind.wrap_i64]; omega
  obtain ⟨d3, _⟩ := H1.out.cell (j := 3) (x := .int .i64 ((s.labels : Int) + 1)) (fun _ _ => by rw [hca]; rfl)
  clear h hG hca ho
  go_enter Tryz.func121, Tryz.ntmps121
  go_upto_region 2 with fail
  generalize w.setCell ⟨g, 3, none⟩ (.int .i64 ((s.labels : Int) + 1)) = w1 at *
  go_wp2_with fail
  refine (Tryz.itoa ((s.labels : Int) + 1) (by omega) (by omega) _ HG.out.lg.pw).mono ?_
  rintro e w2 ⟨rfl, hb⟩
  have HB := hide hb
  clear hb
  go_wp2
  go_ret
  refine ⟨?_, H1.out.below HB.out, H2.out.trans (Kc.below HB.out (by have := H1.out.lt; omega)), HG.out.kc (Kc.below HB.out (by have := H1.out.lt; omega))⟩
  rw [HN.out]
  rfl
set_option maxHeartbeats 1000000 in
set_option maxRecDepth 100000 in
theorem sys_any (n : Nat) (hn : n ≤ 1000) (hG : Lg w) : Calls Tryz.prog 34 #[.int .i64 (n : Int)] w fun e w' => e = .returned (.string ⟨([115, 121, 115, 32] ++ nuT n).toArray⟩) ∧ Below w.heap.size w w' := by
  have HG := hide hG
  have HN := hide (nuT_eq n)
  have hle : (Lib.itoa (n : Int)).length ≤ 6 := itoa_len (by omega) (by omega)
  clear hG
  go_enter Tryz.func34, Tryz.ntmps34
  go_wp2_with fail
  refine (Tryz.itoa (n : Int) (by omega) (by omega) _ HG.out.pw).mono ?_
  rintro e w2 ⟨rfl, hb⟩
  have HB := hide hb
  clear hb
  go_wp2
  go_ret
  refine ⟨congrArg (fun s => Ending.returned (Value.string s)) (ByteArray.ext ?_), HB.out⟩
  rw [HN.out]
  simp [ByteArray.data_append]
set_option maxHeartbeats 1000000 in
set_option maxRecDepth 100000 in
theorem temp_any (d : Nat) (hn : d ≤ 1000000000) (hG : Lg w) : Calls Tryz.prog 120 #[.int .i64 (d : Int)] w fun e w' => e = .returned (.string ⟨(nuT (480 + d)).toArray⟩) ∧ Below w.heap.size w w' := by
  have HG := hide hG
  have HN := hide (nuT_eq (480 + d))
  have hca : ((480 + d : Nat) : Int) = 480 + (d : Int) := by omega
  rw [hca] at HN
  have hwr : IntKind.i64.wrap (480 + (d : Int)) = 480 + (d : Int) := by rw [IntKind.wrap_i64]; omega
  clear hG hca
  go_enter Tryz.func120, Tryz.ntmps120
  go_wp2_with fail
  refine (Tryz.itoa (480 + (d : Int)) (by omega) (by omega) _ HG.out.pw).mono ?_
  rintro e w2 ⟨rfl, hb⟩
  have HB := hide hb
  clear hb
  go_wp2
  go_ret
  refine ⟨?_, HB.out⟩
  rw [HN.out]
  rfl
end
theorem dgF_len : ∀ (f u : Nat), (dgF f u).length ≤ f + 1
  | 0, u => by simp [dgF]
  | f + 1, u => by
    have := dgF_len f (u / 10)
    unfold dgF
    split
    · simp
    · simp; omega
theorem nuT_len (n : Nat) (h : n < 100000000000000000000) : (nuT n).length ≤ 21 := by
  unfold nuT
  rw [if_pos h]
  exact dgF_len 20 n
theorem itoa_len21 (n : Nat) (h : n < 100000000000000000000) : (Lib.itoa (n : Int)).length ≤ 21 := by rw [← nuT_eq]; exact nuT_len n h
theorem dgF_dig : ∀ (f u : Nat), u < 10 ^ (f + 1) → ∀ c ∈ dgF f u, 48 ≤ c.toNat ∧ c.toNat ≤ 57
  | 0, u, h, c, hc => by
    simp only [dgF, List.mem_singleton] at hc
    subst hc
    have : (UInt8.ofNat (48 + u)).toNat = 48 + u := by rw [UInt8.toNat_ofNat']; omega
    omega
  | f + 1, u, h, c, hc => by
    unfold dgF at hc
    split at hc
    · simp only [List.mem_singleton] at hc
      subst hc
      have : (UInt8.ofNat (48 + u)).toNat = 48 + u := by rw [UInt8.toNat_ofNat']; omega
      omega
    · rcases List.mem_append.1 hc with hc | hc
      · exact dgF_dig f (u / 10) (by rw [Nat.pow_succ] at h; omega) c hc
      · simp only [List.mem_singleton] at hc
        subst hc
        have : (UInt8.ofNat (48 + u % 10)).toNat = 48 + u % 10 := by rw [UInt8.toNat_ofNat']; omega
        omega
theorem nuT_dig (n : Nat) (h : n < 100000000000000000000) : ∀ c ∈ nuT n, 48 ≤ c.toNat ∧ c.toNat ≤ 57 := by
  unfold nuT
  rw [if_pos h]
  exact dgF_dig 20 n (by omega)
theorem nuT_semi (n : Nat) (h : n < 100000000000000000000) : (59 : UInt8) ∉ nuT n := fun hm => by
  have := nuT_dig n h 59 hm
  have e : (59 : UInt8).toNat = 59 := rfl
  omega
theorem inT_semi (z : Int) (h : z.natAbs < 100000000000000000000) : (59 : UInt8) ∉ inT z := by
  unfold inT
  split
  · intro hm
    rcases List.mem_cons.1 hm with hm | hm
    · cases hm
    · exact nuT_semi _ h hm
  · exact nuT_semi _ (by omega)
theorem inT_len (z : Int) (h : z.natAbs < 100000000000000000000) : (inT z).length ≤ 22 := by
  unfold inT
  split
  · have := nuT_len _ h; simp; omega
  · have := nuT_len z.toNat (by omega); omega
theorem semi_app {a b : Tx} (ha : (59 : UInt8) ∉ a) (hb : (59 : UInt8) ∉ b) : (59 : UInt8) ∉ a ++ b := fun h => (List.mem_append.1 h).elim ha hb
section
variable (w : World) (g : Nat) (s : Cd)
set_option maxHeartbeats 1000000 in
set_option maxRecDepth 100000 in
theorem addr_any (v : Vr) (hv : v.at' ≤ 4294967295) (hG : Lg w) : Calls Tryz.prog 118 #[.agg (vrL v).toArray] w fun e w' => e = .returned (.string ⟨(nuT v.at').toArray⟩) ∧ Below w.heap.size w w' := by
  have hb1 : Below w.heap.size w (w.alloc (.cells (vrL v).toArray 63)) := (Below.refl _ _).alloc (Nat.le_refl _) _
  have HB := hide hb1
  have HG := hide (hG.below hb1)
  have HN := hide (nuT_eq v.at')
  have c3 : (w.alloc (.cells (vrL v).toArray 63)).cell? ⟨w.heap.size, 3, none⟩ = some (.int .i64 (v.at' : Nat)) := by
    rw [cell_of_row _ _ _ _ _ _ (heap_alloc_last _ _)]; rfl
  clear hG hb1
  go_enter Tryz.func118, Tryz.ntmps118
  go_upto_region 1 with fail
  generalize w.alloc (.cells (vrL v).toArray 63) = w1 at *
  go_wp2_with fail
  refine (Tryz.itoa (v.at' : Int) (by omega) (by omega) _ HG.out.pw).mono ?_
  rintro e w2 ⟨rfl, hb⟩
  have HB2 := hide (HB.out.trans (hb.mono HB.out.size))
  clear hb
  go_wp2
  go_ret
  refine ⟨?_, HB2.out⟩
  rw [HN.out]
  rfl
end
end Go.Proofs.YtiafodeabdhcoaaGreatDoor

namespace Go.Proofs.YtiafodeabdhcoaaGreatDoor
open Go.RowKit
/-- what a coder's call leaves -/
def CdPost (g : Nat) (s' : Cd) (w : World) (e : Ending) (w' : World) : Prop := e = .returned (.tuple #[]) ∧ CdAt w' g s' ∧ Kc g w w' ∧ Lyb g w'
theorem CdPost.pre {g : Nat} {s' : Cd} {w0 w w' : World} {e : Ending} (h : CdPost g s' w e w') (hk : Kc g w0 w) : CdPost g s' w0 e w' := ⟨h.1, h.2.1, hk.trans h.2.2.1, h.2.2.2⟩
theorem semi_lit (a : Tx) (h : a.all (fun c => c != 59) = true) : (59 : UInt8) ∉ a := fun hm => by
  have := List.all_eq_true.1 h 59 hm
  simp at this
theorem semi_nu {a : Tx} (h : a.all (fun c => c != 59) = true) {n : Nat} (hn : n ≤ 1000000000000) : (59 : UInt8) ∉ a ++ nuT n := semi_app (semi_lit a h) (nuT_semi n (by omega))
theorem all_one {p : Tx → Prop} {a : Tx} (h : p a) : ∀ x ∈ [a], p x := fun x hx => by rw [List.mem_singleton.1 hx]; exact h
theorem all_two {p : Tx → Prop} {a b : Tx} (h : p a) (k : p b) : ∀ x ∈ [a, b], p x := fun x hx => by
  rcases List.mem_cons.1 hx with rfl | hx
  · exact h
  · rw [List.mem_singleton.1 hx]; exact k
section
variable (w : World) (g : Nat) (s : Cd)
set_option maxHeartbeats 1000000 in
set_option maxRecDepth 100000 in
theorem guard_any (v : Vr) (hv : v.size ≤ 4294967295) (h : CdAt w g s) (hG : Lyb g w) (ho : (s.guard v).Ok) : Calls Tryz.prog 119 #[.pointer (some ⟨g, 0, none⟩), .agg (vrL v).toArray] w (CdPost g (s.guard v) w) := by
  have hb1 : Below w.heap.size w (w.alloc (.cells (vrL v).toArray 63)) := (Below.refl _ _).alloc (Nat.le_refl _) _
  have hk1 := Kc.below (g := g) hb1 (by have := h.lt; omega)
  have HK := hide hk1
  have HC := hide (h.below hb1)
  have HG := hide (hG.kc hk1)
  have HO := hide ho
  have HN := hide (nuT_eq v.size)
  have hln := itoa_len21 v.size (by omega)
  have c2 : (w.alloc (.cells (vrL v).toArray 63)).cell? ⟨w.heap.size, 2, none⟩ = some (.int .i64 (v.size : Nat)) := by
    rw [cell_of_row _ _ _ _ _ _ (heap_alloc_last _ _)]; rfl
  clear hG hb1 h hk1 ho
  go_enter Tryz.func119, Tryz.ntmps119
  go_upto_region 1 with fail
  generalize w.alloc (.cells (vrL v).toArray 63) = w1 at *
  go_wp2_with fail
  refine (Tryz.itoa (v.size : Int) (by omega) (by omega) _ HG.out.lg.pw).mono ?_
  rintro e w2 ⟨rfl, hb⟩
  have hk2 := Kc.below (g := g) hb (by have := HC.out.lt; omega)
  have HC2 := hide (HC.out.below hb)
  have HG2 := hide (HG.out.kc hk2)
  have HK2 := hide (HK.out.trans hk2)
  clear hb hk2 HC HG HK
  go_wp2_with fail
  refine (putk_any w2 g s _ [[108, 105, 32, 114, 53, 44, 32] ++ nuT v.size, [109, 111, 118, 32, 114, 54, 44, 32, 114, 52], [108, 116, 32, 114, 54, 44, 32, 114, 53], [106, 122, 32, 114, 54, 44, 32, 116, 114, 97, 112]] ?hb (by simp) ?hs HC2.out HG2.out HO.out).mono ?_
  case hb => rw [← HN.out]; simp [ByteArray.data_append, semJ]
  case hs =>
    intro p hp
    simp only [List.mem_cons, List.not_mem_nil, or_false] at hp
    rcases hp with rfl | rfl | rfl | rfl
    · exact semi_nu rfl (by omega)
    all_goals decide
  rintro e w3 ⟨rfl, h1, h2, h3⟩
  have HP : Hid (CdPost g (s.guard v) w (.returned (.tuple #[])) w3) := hide ⟨rfl, h1, HK2.out.trans h2, h3⟩
  clear h1 h2 h3
  go_wp2
  go_end0
  exact HP.out
set_option maxHeartbeats 1000000 in
set_option maxRecDepth 100000 in
theorem num_any (n : Nat) (hv : n ≤ 4294967295) (h : CdAt w g s) (hG : Lyb g w) (ho : (s.num n).Ok) : Calls Tryz.prog 122 #[.pointer (some ⟨g, 0, none⟩), .int .u32 (n : Int)] w (CdPost g (s.num n) w) := by
  have HC := hide h
  have HG := hide hG
  have HO := hide ho
  clear hG h ho
  by_cases hn : n ≤ 32767
  · have hni : (n : Int) ≤ 32767 := by omega
    have hs : s.num n = s.put [[108, 105, 32, 114, 52, 44, 32] ++ nuT n] := by unfold Cd.num; rw [if_pos hn]
    rw [hs] at HO ⊢
    clear hs
    have HN := hide (nuT_eq n)
    have hln := itoa_len21 n (by omega)
    have hwr : IntKind.i64.wrap (n : Int) = (n : Int) := by rw [IntKind.wrap_i64]; omega
    go_enter Tryz.func122, Tryz.ntmps122
    go_wp2_with fail
    refine (Tryz.itoa (n : Int) (by omega) (by omega) _ HG.out.lg.pw).mono ?_
    rintro e w2 ⟨rfl, hb⟩
    have hk2 := Kc.below (g := g) hb (by have := HC.out.lt; omega)
    have HC2 := hide (HC.out.below hb)
    have HG2 := hide (HG.out.kc hk2)
    have HK2 := hide hk2
    clear hb hk2 HC HG
    go_wp2_with fail
    refine (putk_any w2 g s _ [[108, 105, 32, 114, 52, 44, 32] ++ nuT n] ?hb (by simp) (all_one (semi_nu rfl (by omega))) HC2.out HG2.out HO.out).mono ?_
    case hb => rw [← HN.out]; simp [ByteArray.data_append, semJ]
    rintro e w3 ⟨rfl, h1, h2, h3⟩
    have HP : Hid (CdPost g (s.put [[108, 105, 32, 114, 52, 44, 32] ++ nuT n]) w (.returned (.tuple #[])) w3) := hide ⟨rfl, h1, HK2.out.trans h2, h3⟩
    clear h1 h2 h3
    go_wp2
    go_end0
    exact HP.out
  · have hni : ¬ (n : Int) ≤ 32767 := by omega
    have hs : s.num n = s.put [[108, 105, 32, 114, 52, 44, 32] ++ inT (i16T n), [104, 105, 32, 114, 52, 44, 32] ++ nuT (n / 65536)] := by unfold Cd.num; rw [if_neg hn]
    rw [hs] at HO ⊢
    clear hs
    have HN := hide (inT_eq (i16T n))
    have hln := inT_len (i16T n) (by unfold i16T; split <;> omega)
    rw [HN.out] at hln
    have HN2 := hide (nuT_eq (n / 65536))
    have hln2 := itoa_len21 (n / 65536) (by omega)
    go_enter Tryz.func122, Tryz.ntmps122
    have hz : -32768 ≤ i16T n ∧ i16T n ≤ 32767 := by unfold i16T; split <;> omega
    have hzw : IntKind.i16.wrap (n : Int) = i16T n := by
      simp only [IntKind.wrap, IntKind.bits, IntKind.signed, i16T]
      simp
      split <;> split <;> omega
    obtain ⟨z, hze⟩ : ∃ z, i16T n = z := ⟨_, rfl⟩
    have hnd : (n : Int) / 65536 = ((n / 65536 : Nat) : Int) := by omega
    have hq2 : n / 65536 ≤ 65535 := by omega
    obtain ⟨q, hq⟩ : ∃ q, n / 65536 = q := ⟨_, rfl⟩
    rw [hze] at HO HN hln hz hzw ⊢
    rw [hq] at HO HN2 hln2 hnd hq2 ⊢
    obtain ⟨hz1, hz2⟩ := hz
    clear hze hq
    go_wp2_with fail
    refine (Tryz.itoa z (by omega) (by omega) _ HG.out.lg.pw).mono ?_
    rintro e w2 ⟨rfl, hb⟩
    have hk2 := Kc.below (g := g) hb (by have := HC.out.lt; omega)
    have HC2 := hide (HC.out.below hb)
    have HG2 := hide (HG.out.kc hk2)
    have HK2 := hide hk2
    clear hb hk2 HC HG
    go_wp2_with fail
    refine (Tryz.itoa (q : Int) (by omega) (by omega) _ HG2.out.lg.pw).mono ?_
    rintro e w3 ⟨rfl, hb⟩
    have hk3 := Kc.below (g := g) hb (by have := HC2.out.lt; omega)
    have HC3 := hide (HC2.out.below hb)
    have HG3 := hide (HG2.out.kc hk3)
    have HK3 := hide (HK2.out.trans hk3)
    clear hb hk3 HC2 HG2 HK2
    go_wp2_with fail
    refine (putk_any w3 g s _ [[108, 105, 32, 114, 52, 44, 32] ++ inT z, [104, 105, 32, 114, 52, 44, 32] ++ nuT q] ?hb (by simp) (all_two (semi_app (by decide) (inT_semi z (by omega))) (semi_nu rfl (by omega))) HC3.out HG3.out HO.out).mono ?_
    case hb => rw [← HN2.out, ← HN.out]; simp [ByteArray.data_append, semJ]
    rintro e w4 ⟨rfl, h1, h2, h3⟩
    have HP : Hid (CdPost g (s.put [[108, 105, 32, 114, 52, 44, 32] ++ inT z, [104, 105, 32, 114, 52, 44, 32] ++ nuT q]) w (.returned (.tuple #[])) w4) := hide ⟨rfl, h1, HK3.out.trans h2, h3⟩
    clear h1 h2 h3
    go_wp2
    go_end0
    exact HP.out
end
end Go.Proofs.YtiafodeabdhcoaaGreatDoor

namespace Go.Proofs.YtiafodeabdhcoaaGreatDoor
open Go.RowKit
def Rd.note (r : Rd) (k ln : Nat) : Rd := if k = 0 then r.nform ln else if k = 1 then r.nname ln else if k = 2 then r.ndat ln else r.ndep ln
theorem Rd.note_vars (r : Rd) (k ln : Nat) : (r.note k ln).vars = r.vars ∧ (r.note k ln).at' = r.at' := by
  unfold Rd.note Rd.nform Rd.nname Rd.ndat Rd.ndep
  split
  · split <;> exact ⟨rfl, rfl⟩
  · split
    · split <;> exact ⟨rfl, rfl⟩
    · split
      · split <;> exact ⟨rfl, rfl⟩
      · split <;> exact ⟨rfl, rfl⟩
theorem fld0 (a b c d : Value) (W : World) : (Instr.field 115 (.agg #[a, b, c, d]) 0).run Tryz.prog W = .ok a W := by
  unfold Instr.field
  simp [Sem.run_bind, run_underlying Tryz.underlying115, part, asAgg, run_isAgg_plain Tryz.underlying3 rfl]
theorem fld1 (a b c d : Value) (W : World) : (Instr.field 115 (.agg #[a, b, c, d]) 1).run Tryz.prog W = .ok b W := by
  unfold Instr.field
  simp [Sem.run_bind, run_underlying Tryz.underlying115, part, asAgg, run_isAgg_plain Tryz.underlying9 rfl]
theorem fld3 (a b c d : Value) (W : World) : (Instr.field 115 (.agg #[a, b, c, d]) 3).run Tryz.prog W = .ok d W := by
  unfold Instr.field
  simp [Sem.run_bind, run_underlying Tryz.underlying115, part, asAgg, run_isAgg_plain Tryz.underlying3 rfl]
section
variable (w : World)
set_option maxRecDepth 100000 in
set_option maxHeartbeats 1000000 in
theorem note_any (g : Nat) (ts : List Tk) (F : Fx) (r : Rd) (k ln : Nat) (kz : Int) (hkz : kz = (k : Int)) (hk : k < 4) (h : RdA w g ts F r) : Calls Tryz.prog 87 #[.pointer (some ⟨g, 0, none⟩), .int .i64 kz, .int .i64 (ln : Int)] w fun e w' => e = .returned (.tuple #[]) ∧ RdA w' g ts F (r.note k ln) ∧ Kp g w w' := by
  subst hkz
  have hv := r.note_vars k ln
  have hat := h.hat
  have H := hide h
  have h4 : k = 0 ∨ k = 1 ∨ k = 2 ∨ k = 3 := by omega
  rcases h4 with rfl | rfl | rfl | rfl
  · have c := h.b.get (j := 2) rfl
    have f := h.b.frz 2
    by_cases hz : r.form = 0
    · have HE : Hid (r.note 0 ln = { r with form := ln }) := hide (by show r.nform ln = _; unfold Rd.nform; rw [if_pos hz])
      have HA : Hid (RdA (w.setCell ⟨g, 2, none⟩ (.int .i64 (ln : Int))) g ts F { r with form := ln }) := hide (h.to (Kp.set (Kp.refl g w) _) (h.b.set 2 _) rfl hat)
      rw [hz] at c
      clear h hz hv hk
      go_enter Tryz.func87, Tryz.ntmps87
      go_wp2
      go_end0
      exact ⟨rfl, by rw [HE.out]; exact HA.out, Kp.set (Kp.refl g w) _⟩
    · have HE : Hid (r.note 0 ln = r) := hide (by show r.nform ln = _; unfold Rd.nform; rw [if_neg hz])
      have hb : ((r.form : Int) == 0) = false := by simpa using hz
      clear h hz hv hk f
      generalize r.form = z at *
      go_enter Tryz.func87, Tryz.ntmps87
      go_wp2
      go_end0
      exact ⟨rfl, by rw [HE.out]; exact H.out, Kp.refl g w⟩
  · have c := h.b.get (j := 3) rfl
    have f := h.b.frz 3
    by_cases hz : r.nam = 0
    · have HE : Hid (r.note 1 ln = { r with nam := ln }) := hide (by show r.nname ln = _; unfold Rd.nname; rw [if_pos hz])
      have HA : Hid (RdA (w.setCell ⟨g, 3, none⟩ (.int .i64 (ln : Int))) g ts F { r with nam := ln }) := hide (h.to (Kp.set (Kp.refl g w) _) (h.b.set 3 _) rfl hat)
      rw [hz] at c
      clear h hz hv hk
      go_enter Tryz.func87, Tryz.ntmps87
      go_wp2
      go_end0
      exact ⟨rfl, by rw [HE.out]; exact HA.out, Kp.set (Kp.refl g w) _⟩
    · have HE : Hid (r.note 1 ln = r) := hide (by show r.nname ln = _; unfold Rd.nname; rw [if_neg hz])
      have hb : ((r.nam : Int) == 0) = false := by simpa using hz
      clear h hz hv hk f
      generalize r.nam = z at *
      go_enter Tryz.func87, Tryz.ntmps87
      go_wp2
      go_end0
      exact ⟨rfl, by rw [HE.out]; exact H.out, Kp.refl g w⟩
  · have c := h.b.get (j := 4) rfl
    have f := h.b.frz 4
    by_cases hz : r.dat = 0
    · have HE : Hid (r.note 2 ln = { r with dat := ln }) := hide (by show r.ndat ln = _; unfold Rd.ndat; rw [if_pos hz])
      have HA : Hid (RdA (w.setCell ⟨g, 4, none⟩ (.int .i64 (ln : Int))) g ts F { r with dat := ln }) := hide (h.to (Kp.set (Kp.refl g w) _) (h.b.set 4 _) rfl hat)
      rw [hz] at c
      clear h hz hv hk
      go_enter Tryz.func87, Tryz.ntmps87
      go_wp2
      go_end0
      exact ⟨rfl, by rw [HE.out]; exact HA.out, Kp.set (Kp.refl g w) _⟩
    · have HE : Hid (r.note 2 ln = r) := hide (by show r.ndat ln = _; unfold Rd.ndat; rw [if_neg hz])
      have hb : ((r.dat : Int) == 0) = false := by simpa using hz
      clear h hz hv hk f
      generalize r.dat = z at *
      go_enter Tryz.func87, Tryz.ntmps87
      go_wp2
      go_end0
      exact ⟨rfl, by rw [HE.out]; exact H.out, Kp.refl g w⟩
  · have c := h.b.get (j := 5) rfl
    have f := h.b.frz 5
    by_cases hz : r.dep = 0
    · have HE : Hid (r.note 3 ln = { r with dep := ln }) := hide (by show r.ndep ln = _; unfold Rd.ndep; rw [if_pos hz])
      have HA : Hid (RdA (w.setCell ⟨g, 5, none⟩ (.int .i64 (ln : Int))) g ts F { r with dep := ln }) := hide (h.to (Kp.set (Kp.refl g w) _) (h.b.set 5 _) rfl hat)
      rw [hz] at c
      clear h hz hv hk
      go_enter Tryz.func87, Tryz.ntmps87
      go_wp2
      go_end0
      exact ⟨rfl, by rw [HE.out]; exact HA.out, Kp.set (Kp.refl g w) _⟩
    · have HE : Hid (r.note 3 ln = r) := hide (by show r.ndep ln = _; unfold Rd.ndep; rw [if_neg hz])
      have hb : ((r.dep : Int) == 0) = false := by simpa using hz
      clear h hz hv hk f
      generalize r.dep = z at *
      go_enter Tryz.func87, Tryz.ntmps87
      go_wp2
      go_end0
      exact ⟨rfl, by rw [HE.out]; exact H.out, Kp.refl g w⟩
set_option maxRecDepth 100000 in
set_option maxHeartbeats 1000000 in
theorem refuse_any (g : Nat) (ts : List Tk) (F : Fx) (r : Rd) (h : RdA w g ts F r) : Calls Tryz.prog 55 #[.pointer (some ⟨g, 0, none⟩)] w fun e w' => e = .returned (.tuple #[]) ∧ RdA w' g ts F (r.refuse ts) ∧ Kp g w w' := by
  have HS := hide (see_any w g ts F r h)
  have HN := hide (fun W (hW : RdA W g ts F r) => note_any W g ts F r 0 (r.see ts).line 0 rfl (by decide) hW)
  change Hid (∀ W, RdA W g ts F r → Calls _ _ _ W fun e w' => e = .returned (.tuple #[]) ∧ RdA w' g ts F (r.refuse ts) ∧ Kp g W w') at HN
  have H := hide h
  clear h
  generalize r.refuse ts = r' at *
  obtain ⟨t, ht⟩ : ∃ t, r.see ts = t := ⟨_, rfl⟩
  rw [ht] at HS HN
  obtain ⟨tk, tx, tv, tl⟩ := t
  simp only [tkL] at HS HN
  clear ht
  have h3 := fld3 (.int .i64 (tk : Nat)) (.string ⟨tx.toArray⟩) (.int .u32 (tv : Nat)) (.int .i64 (tl : Nat))
  go_enter Tryz.func55, Tryz.ntmps55
  go_wp2_with fail
  refine HS.out.mono ?_
  rintro e w1 ⟨rfl, hb1⟩
  go_wp2_with fail
  refine (HN.out w1 (H.out.keep hb1)).mono ?_
  rintro e w2 ⟨rfl, hA, hk⟩
  go_wp2
  go_end0
  exact ⟨rfl, hA, (Kp.of hb1).trans hk⟩
set_option maxRecDepth 100000 in
set_option maxHeartbeats 1000000 in
theorem pass_any (g : Nat) (ts : List Tk) (F : Fx) (r : Rd) (s : Tx) (hs : s ≠ []) (h : RdA w g ts F r) : Calls Tryz.prog 51 #[.pointer (some ⟨g, 0, none⟩), .string ⟨s.toArray⟩] w fun e w' => e = .returned (.bool (r.is ts s)) ∧ RdA w' g ts F (r.pass ts s) ∧ Kp g w w' := by
  have HS := hide (see_any w g ts F r h)
  have H := hide h
  have HM : Hid ((r.see ts).text = s → r.at' + 1 < ts.length) := hide (fun e => (h.more (.inr (by rw [e]; exact hs))).1)
  have hat := h.hat
  have hln := h.len
  have HI : Hid (r.is ts s = ((r.see ts).text == s)) := hide rfl
  have HP : Hid (r.pass ts s = if ((r.see ts).text == s) = true then r.step else r) := hide rfl
  clear h
  obtain ⟨t, ht⟩ : ∃ t, r.see ts = t := ⟨_, rfl⟩
  rw [ht] at HS HM HI HP
  obtain ⟨tk, tx, tv, tl⟩ := t
  simp only [tkL] at HS HM HI HP
  clear ht
  have h1 := fld1 (.int .i64 (tk : Nat)) (.string ⟨tx.toArray⟩) (.int .u32 (tv : Nat)) (.int .i64 (tl : Nat))
  go_enter Tryz.func51, Tryz.ntmps51
  go_wp2_with fail
  refine HS.out.mono ?_
  rintro e w1 ⟨rfl, hb1⟩
  have hA1 := H.out.keep hb1
  have HB := hide hb1
  clear hb1 H HS
  cases hx : (tx == s) with
  | true =>
    have hm := HM.out (by simpa using hx)
    rw [hx] at HI HP
    have c1 := hA1.b.get (j := 1) rfl
    have f1 := hA1.b.frz 1
    have HA : Hid (RdA (w1.setCell ⟨g, 1, none⟩ (.int .i64 ((r.at' + 1 : Nat) : Int))) g ts F r.step) := hide (hA1.to (Kp.set (Kp.refl g w1) _) (hA1.b.set 1 _) rfl hm)
    have hcs : ((r.at' + 1 : Nat) : Int) = (r.at' : Int) + 1 := by omega
    rw [hcs] at HA
    clear hA1 HM hcs
    go_wp2
    go_ret
    exact ⟨by rw [HI.out]; rfl, by rw [HP.out]; exact HA.out, Kp.set (Kp.of HB.out) _⟩
  | false =>
    rw [hx] at HI HP
    have HA := hide hA1
    clear hA1 HM
    go_wp2
    go_ret
    exact ⟨by rw [HI.out]; rfl, by rw [HP.out]; exact HA.out, Kp.of HB.out⟩
set_option maxRecDepth 100000 in
set_option maxHeartbeats 1000000 in
theorem take_any (g : Nat) (ts : List Tk) (F : Fx) (r : Rd) (s : Tx) (hs : s ≠ []) (h : RdA w g ts F r) : Calls Tryz.prog 79 #[.pointer (some ⟨g, 0, none⟩), .string ⟨s.toArray⟩] w fun e w' => e = .returned (.tuple #[]) ∧ RdA w' g ts F (r.take ts s) ∧ Kp g w w' := by
  have HP := hide (pass_any w g ts F r s hs h)
  have HT : Hid (r.take ts s = if r.is ts s = true then r.step else r.refuse ts) := hide rfl
  have HP2 : Hid (r.pass ts s = if r.is ts s = true then r.step else r) := hide rfl
  clear h
  go_enter Tryz.func79, Tryz.ntmps79
  go_wp2_with fail
  refine HP.out.mono ?_
  rintro e w1 ⟨rfl, hA, hk⟩
  rw [HP2.out] at hA
  clear HP HP2
  cases hx : r.is ts s with
  | true =>
    rw [hx] at HT hA
    have HA := hide hA
    have HK := hide hk
    clear hA hk
    go_wp2
    go_end0
    exact ⟨rfl, by rw [HT.out]; exact HA.out, HK.out⟩
  | false =>
    rw [hx] at HT hA
    have HA := hide hA
    have HK := hide hk
    clear hA hk
    go_wp2_with fail
    refine (refuse_any w1 g ts F r HA.out).mono ?_
    rintro e w2 ⟨rfl, hA2, hk2⟩
    go_wp2
    go_end0
    exact ⟨rfl, by rw [HT.out]; exact hA2, HK.out.trans hk2⟩
end
end Go.Proofs.YtiafodeabdhcoaaGreatDoor

namespace Go.Proofs.YtiafodeabdhcoaaGreatDoor
open Go.RowKit
/-- what reading keeps -/
structure Rd.Fr (r r' : Rd) : Prop where
  vars : r'.vars = r.vars
  words : r'.words = r.words
  blocks : r'.blocks = r.blocks
  loops : r'.loops = r.loops
  dat : r'.dat = r.dat
  at' : r.at' ≤ r'.at'
theorem Rd.Fr.refl (r : Rd) : r.Fr r := ⟨rfl, rfl, rfl, rfl, rfl, Nat.le_refl _⟩
theorem Rd.Fr.trans {a b c : Rd} (h : a.Fr b) (h2 : b.Fr c) : a.Fr c := ⟨h2.vars.trans h.vars, h2.words.trans h.words, h2.blocks.trans h.blocks, h2.loops.trans h.loops, h2.dat.trans h.dat, Nat.le_trans h.at' h2.at'⟩
section
variable {ts : List Tk}
theorem fr_step (r : Rd) : r.Fr r.step := ⟨rfl, rfl, rfl, rfl, rfl, Nat.le_succ _⟩
theorem fr_form (r : Rd) (l : Nat) : r.Fr (r.nform l) := by unfold Rd.nform; split <;> exact ⟨rfl, rfl, rfl, rfl, rfl, Nat.le_refl _⟩
theorem fr_name (r : Rd) (l : Nat) : r.Fr (r.nname l) := by unfold Rd.nname; split <;> exact ⟨rfl, rfl, rfl, rfl, rfl, Nat.le_refl _⟩
theorem fr_dep (r : Rd) (l : Nat) : r.Fr (r.ndep l) := by unfold Rd.ndep; split <;> exact ⟨rfl, rfl, rfl, rfl, rfl, Nat.le_refl _⟩
theorem fr_refuse (r : Rd) : r.Fr (r.refuse ts) := fr_form r _
theorem fr_pass (r : Rd) (s : Tx) : r.Fr (r.pass ts s) := by unfold Rd.pass; split; exact fr_step r; exact Rd.Fr.refl r
theorem fr_take (r : Rd) (s : Tx) : r.Fr (r.take ts s) := by unfold Rd.take; split; exact fr_step r; exact fr_refuse r
theorem fr_named (r : Rd) : r.Fr (r.named ts).2 := by
  unfold Rd.named
  split
  · exact (fr_step r).trans (fr_name _ _)
  · simp only
    split
    · exact (fr_step r).trans (fr_name _ _)
    · exact fr_step r
theorem named_at (r : Rd) : (r.named ts).2.at' = r.at' + 1 := by
  have h1 : ∀ (r : Rd) l, (r.nname l).at' = r.at' := fun r l => by unfold Rd.nname; split <;> rfl
  unfold Rd.named
  split
  · simp only; rw [h1]; rfl
  · simp only
    split
    · rw [h1]; rfl
    · rfl
theorem fr_px : ∀ (n t lv : Nat) (e : Ex) (r : Rd), r.Fr (pxF ts n t lv e r).2
  | 0, _, _, _, r => by simp only [pxF]; exact Rd.Fr.refl r
  | n + 1, 0, lv, e, r => by
    simp only [pxF]
    split
    · exact (fr_take r _).trans (fr_px n 0 0 ex0 _)
    · split
      · exact fr_step r
      · split
        · exact fr_step r
        · split
          · split
            · exact (((fr_named r).trans (fr_step _)).trans (fr_px n 1 1 ex0 _)).trans (fr_take _ _)
            · exact fr_named r
          · split
            · exact ((fr_step r).trans (fr_px n 1 1 ex0 _)).trans (fr_take _ _)
            · exact fr_refuse r
  | n + 1, 1, lv, e, r => by
    simp only [pxF]
    exact (fr_px n 0 0 ex0 r).trans (fr_px n 2 lv _ _)
  | n + 1, t + 2, lv, e, r => by
    simp only [pxF]
    split
    · exact Rd.Fr.refl r
    · exact ((fr_take r _).trans (fr_px n 1 _ ex0 _)).trans (fr_px n 2 lv _ _)
theorem px_depth : ∀ (n t lv : Nat) (e : Ex) (r : Rd), (pxF ts n t lv e r).1.depth ≤ max e.depth n
  | 0, _, _, _, r => by simp only [pxF]; show 0 ≤ _; omega
  | n + 1, 0, lv, e, r => by
    simp only [pxF]
    split
    · have := px_depth n 0 0 ex0 (r.take ts (r.see ts).text)
      have h0 : ex0.depth = 0 := rfl
      show 1 + _ ≤ _
      omega
    · split
      · show 1 ≤ _; omega
      · split
        · show 1 ≤ _; omega
        · split
          · split
            · have := px_depth n 1 1 ex0 (r.named ts).2.step
              have h0 : ex0.depth = 0 := rfl
              show 1 + _ ≤ _
              omega
            · show 1 ≤ _; omega
          · split
            · have := px_depth n 1 1 ex0 r.step
              have h0 : ex0.depth = 0 := rfl
              show _ + 1 ≤ _
              omega
            · show 0 ≤ _; omega
  | n + 1, 1, lv, e, r => by
    simp only [pxF]
    have h1 := px_depth n 0 0 ex0 r
    have h2 := px_depth n 2 lv (pxF ts n 0 0 ex0 r).1 (pxF ts n 0 0 ex0 r).2
    have h0 : ex0.depth = 0 := rfl
    omega
  | n + 1, t + 2, lv, e, r => by
    simp only [pxF]
    split
    · show e.depth ≤ _; omega
    · have h1 := px_depth n 1 (lvT (r.see ts).text + 1) ex0 (r.take ts (r.see ts).text)
      have h0 : ex0.depth = 0 := rfl
      refine Nat.le_trans (px_depth n 2 lv _ _) ?_
      show max (max _ _) _ ≤ _
      omega
end
def exL (k v : Nat) (vr : Vr) (op : Tx) (pl pr : Value) (d : Nat) : List Value := [.int .i64 (k : Nat), .int .u32 (v : Nat), .string ⟨vr.name.toArray⟩, .bool vr.arr, .int .i64 (vr.size : Nat), .int .i64 (vr.at' : Nat), .string ⟨op.toArray⟩, pl, pr, .int .i64 (d : Nat)]
/-- an expression lies at block p, all of it in blocks of X -/
def ExAt (w : World) : Ex → (Nat → Prop) → Nat → Prop
  | ⟨k, v, vr, op, l, r, d⟩, X, p => X p ∧ ∃ pl pr, Blk w p 154 (exL k v vr op pl pr d) ∧
    (match l with
      | none => pl = .pointer none
      | some e => ∃ q, pl = .pointer (some ⟨q, 0, none⟩) ∧ ExAt w e (fun j => X j ∧ j ≠ p) q) ∧
    (match r with
      | none => pr = .pointer none
      | some e => ∃ q, pr = .pointer (some ⟨q, 0, none⟩) ∧ ExAt w e (fun j => X j ∧ j ≠ p) q)
theorem ExAt.move {w w' : World} : ∀ (e : Ex) {X Y : Nat → Prop} {p : Nat}, ExAt w e X p → (∀ j, X j → j < w.heap.size → Y j ∧ w'.heap[j]? = w.heap[j]?) → ExAt w' e Y p
  | ⟨k, v, vr, op, l, r, d⟩, X, Y, p, h, hm => by
    unfold ExAt at h ⊢
    obtain ⟨h0, pl, pr, hb, hl, hr⟩ := h
    obtain ⟨hy, hk⟩ := hm p h0 hb.lt
    have hm' : ∀ j, (X j ∧ j ≠ p) → j < w.heap.size → (Y j ∧ j ≠ p) ∧ w'.heap[j]? = w.heap[j]? := fun j hj hs => ⟨⟨(hm j hj.1 hs).1, hj.2⟩, (hm j hj.1 hs).2⟩
    refine ⟨hy, pl, pr, hb.keep hk, ?_, ?_⟩
    · match l, hl with
      | none, hl => exact hl
      | some e, ⟨q, h1, h2⟩ => exact ⟨q, h1, ExAt.move e h2 hm'⟩
    · match r, hr with
      | none, hr => exact hr
      | some e, ⟨q, h1, h2⟩ => exact ⟨q, h1, ExAt.move e h2 hm'⟩
/-- an expression, or none -/
def PtE (w : World) (o : Option Ex) (X : Nat → Prop) (v : Value) : Prop :=
  match o with
  | none => v = .pointer none
  | some e => ∃ q, v = .pointer (some ⟨q, 0, none⟩) ∧ ExAt w e X q
theorem PtE.move {w w' : World} {o : Option Ex} {X Y : Nat → Prop} {v : Value} (h : PtE w o X v) (hm : ∀ j, X j → j < w.heap.size → Y j ∧ w'.heap[j]? = w.heap[j]?) : PtE w' o Y v := by
  match o, h with
  | none, h => exact h
  | some e, ⟨q, h1, h2⟩ => exact ⟨q, h1, ExAt.move e h2 hm⟩
theorem ExAt.iff {w : World} {k v : Nat} {vr : Vr} {op : Tx} {l r : Option Ex} {d : Nat} {X : Nat → Prop} {p : Nat} : ExAt w ⟨k, v, vr, op, l, r, d⟩ X p ↔ X p ∧ ∃ pl pr, Blk w p 154 (exL k v vr op pl pr d) ∧ PtE w l (fun j => X j ∧ j ≠ p) pl ∧ PtE w r (fun j => X j ∧ j ≠ p) pr := by
  unfold ExAt PtE
  constructor
  · rintro ⟨h0, pl, pr, hb, hl, hr⟩
    refine ⟨h0, pl, pr, hb, ?_, ?_⟩
    · cases l <;> exact hl
    · cases r <;> exact hr
  · rintro ⟨h0, pl, pr, hb, hl, hr⟩
    refine ⟨h0, pl, pr, hb, ?_, ?_⟩
    · cases l <;> exact hl
    · cases r <;> exact hr
theorem ExAt.x {w : World} {e : Ex} {X : Nat → Prop} {p : Nat} (h : ExAt w e X p) : X p ∧ p < w.heap.size ∧ w.cell? ⟨p, 9, none⟩ = some (.int .i64 (e.depth : Nat)) := by
  obtain ⟨k, v, vr, op, l, r, d⟩ := e
  obtain ⟨h0, pl, pr, hb, _⟩ := ExAt.iff.1 h
  exact ⟨h0, hb.lt, hb.get (j := 9) rfl⟩
/-- new blocks -/
abbrev New (w : World) : Nat → Prop := fun k => w.heap.size ≤ k
theorem ExAt.keepK {w w' : World} {e : Ex} {X : Nat → Prop} {p g : Nat} (h : ExAt w e X p) (hk : Kp g w w') (hg : ∀ j, X j → j ≠ g) : ExAt w' e X p := h.move e fun j hj hs => ⟨hj, hk.block j hs (hg j hj)⟩
theorem ExAt.mono {w : World} {e : Ex} {X Y : Nat → Prop} {p : Nat} (h : ExAt w e X p) (hx : ∀ j, X j → Y j) : ExAt w e Y p := h.move e fun j hj _ => ⟨hx j hj, rfl⟩
end Go.Proofs.YtiafodeabdhcoaaGreatDoor

namespace Go.Proofs.YtiafodeabdhcoaaGreatDoor
open Go.RowKit
theorem le_num (c : Cd) (n : Nat) : c.Le (c.num n) := by unfold Cd.num; split <;> exact le_put _ _
theorem le_guard (c : Cd) (v : Vr) : c.Le (c.guard v) := le_put _ _
theorem le_short (c : Cd) {fl fr : Cd → Cd} (hl : ∀ c : Cd, c.Le (fl c)) (hr : ∀ c : Cd, c.Le (fr c)) (j : Tx) (z : Nat) : c.Le (c.short fl fr j z) :=
  ((((((((le_pair c).trans (hl _)).trans (le_put _ _)).trans (hr _)).trans (le_put _ _)).trans (le_put _ _)).trans (le_lab _ _)).trans (le_put _ _)).trans (le_lab _ _)
theorem le_oper (c : Cd) {fl fr : Cd → Cd} (hl : ∀ c : Cd, c.Le (fl c)) (hr : ∀ c : Cd, c.Le (fr c)) (d : Nat) (op : Tx) : c.Le (c.oper fl fr d op) :=
  (((((hl c).trans (le_put _ _)).trans (hr _)).trans (le_put _ _)).trans (le_put _ _))
theorem le_cx : ∀ (e : Ex) (d : Nat) (c : Cd), c.Le (cxF e d c)
  | ⟨k, v, vr, op, l, r, dp⟩, d, c => by
    have hl : ∀ (d : Nat) (c : Cd), c.Le (match l with | none => c | some e => cxF e d c) := fun d c => by
      match l with
      | none => exact Cd.Le.refl c
      | some e => exact le_cx e d c
    have hr : ∀ (d : Nat) (c : Cd), c.Le (match r with | none => c | some e => cxF e d c) := fun d c => by
      match r with
      | none => exact Cd.Le.refl c
      | some e => exact le_cx e d c
    unfold cxF
    split
    · exact le_num c v
    · split
      · exact le_put _ _
      · split
        · exact le_put _ _
        · split
          · exact ((hl d c).trans (le_guard _ _)).trans (le_put _ _)
          · split
            · exact (hl d c).trans (le_put _ _)
            · split
              · exact le_short c (hl d) (hr d) _ _
              · split
                · exact le_short c (hl d) (hr d) _ _
                · exact le_oper c (hl d) (hr (d + 1)) d op
/-- how many nodes an expression has -/
def exN : Ex → Nat
  | ⟨_, _, _, _, l, r, _⟩ => 1 + (match l with | none => 0 | some e => exN e) + (match r with | none => 0 | some e => exN e)
/-- an expression that the coder and the machine take -/
def exK : Ex → Prop
  | ⟨k, v, vr, op, l, r, _⟩ => k ≤ 5 ∧ v ≤ 4294967295 ∧ vr.size ≤ 4294967295 ∧ vr.at' ≤ 4294967295 ∧ (k = 2 → 384 ≤ vr.at' ∧ vr.at' < 480) ∧ (k = 3 → 384 ≤ vr.at' ∧ vr.at' + vr.size ≤ 480) ∧
    (k = 5 → lvT op ≠ 0) ∧ (3 ≤ k → l ≠ none) ∧ (k = 5 → r ≠ none) ∧
    (match l with | none => True | some e => exK e) ∧ (match r with | none => True | some e => exK e)
theorem ExAt.kc {w w' : World} {e : Ex} {X : Nat → Prop} {p g : Nat} (h : ExAt w e X p) (hk : Kc g w w') (hX : ∀ j, X j → j < g) : ExAt w' e X p := h.move e fun j hj _ => ⟨hj, hk.b.block j (hX j hj)⟩
theorem Blk.kc {w w' : World} {p g : Nat} {T : TypeId} {vs : List Value} (h : Blk w p T vs) (hk : Kc g w w') (hp : p < g) : Blk w' p T vs := h.keep (hk.b.block p hp)
/-- the coder's contract for an expression -/
def CxE (e : Ex) : Prop := ∀ (w : World) (g : Nat) (s : Cd) (d p : Nat) (X : Nat → Prop), ExAt w e X p → (∀ j, X j → j < g) → CdAt w g s → Lyb g w → (cxF e d s).Ok → d + exN e ≤ 1000000000 →
  Calls Tryz.prog 93 #[.pointer (some ⟨g, 0, none⟩), .pointer (some ⟨p, 0, none⟩), .int .i64 (d : Int)] w (CdPost g (cxF e d s) w)
end Go.Proofs.YtiafodeabdhcoaaGreatDoor
