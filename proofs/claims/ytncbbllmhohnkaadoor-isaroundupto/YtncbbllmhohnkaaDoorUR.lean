import Derived.Test.YtncbbllmhohnkaaDoorUQ
import Derived.MapKept
import Derived.Laws.Cover2
import Derived.RangeFuncRecord
namespace Go.Proofs.YtncbbllmhohnkaaDoor
open Go.RowKit
/-- the keys of a map: their type, how they lie, when two are one -/
structure Cod (α : Type) where
  t : TypeId
  enc : α → Value
  eqb : α → α → Bool
/-- block r is a map with these pairs, in this order -/
def MapIs {α β : Type} (w : World) (r : Nat) (K : Cod α) (E : β → Value) (ps : List (α × β)) : Prop :=
  ∃ (es : Array MapEntry) (clock : Nat), w.heap[r]? = some (.map es clock) ∧ es.toList.map (fun e => (e.key, e.val)) = ps.map (fun p => (K.enc p.1, E p.2))
/-- what a key's type must do -/
structure KeyOk {α : Type} (K : Cod α) : Prop where
  same : ∀ a b, K.eqb a b = true ↔ a = b
  check : ∀ (em : Bool) (a : α) (w : World), (Instr.checkKey em 10000 K.t (K.enc a)).run Tryd.prog w = .ok () w
  find : ∀ (a : α) (es : List MapEntry) (ks : List α) (w : World), es.map (·.key) = ks.map K.enc →
    (Instr.findKey K.t (K.enc a) es).run Tryd.prog w = .ok ((ks.findIdx? (K.eqb a)).map (fun i => (i, ((es[i]?).map (·.val)).getD undef))) w
def KS : Cod Tx := ⟨9, fun s => .string ⟨s.toArray⟩, fun a b => a == b⟩
theorem findNow_str (a : Tx) : ∀ (es : List MapEntry) (ks : List Tx) (i : Nat), es.map (·.key) = ks.map (fun a => Value.string ⟨a.toArray⟩) →
    Instr.findNow .string (.string ⟨a.toArray⟩) es i = some ((ks.findIdx? (fun k => a == k)).map (fun j => (i + j, ((es[j]?).map (·.val)).getD undef)))
  | [], [], i, _ => rfl
  | [], _ :: _, _, h => by simp at h
  | _ :: _, [], _, h => by simp at h
  | e :: es, k :: ks, i, h => by
    simp only [List.map_cons, List.cons.injEq] at h
    obtain ⟨h1, h2⟩ := h
    rw [Instr.findNow, h1]
    simp only [Instr.sameNow]
    have hq : ((⟨a.toArray⟩ : ByteArray) == (⟨k.toArray⟩ : ByteArray)) = (a == k) := by
      rw [beq_toListBytes, Lib.toList_data, Lib.toList_data]
    cases hk : (a == k) with
    | true => simp [List.findIdx?_cons, hk, hq]
    | false =>
      simp only [hq, hk]
      rw [findNow_str a es ks (i + 1) h2, List.findIdx?_cons, hk]
      simp only [Bool.false_eq_true, if_false, Option.map_map]
      congr 1
      congr 1
      funext j
      simp [Nat.add_assoc, Nat.add_comm 1 j]
theorem key_str : KeyOk KS := by
  refine ⟨fun a b => by simp [KS], fun em a w => ?_, fun a es ks w h => ?_⟩
  · show (Instr.checkKey em (9999 + 1) 9 (.string ⟨a.toArray⟩)).run Tryd.prog w = _
    unfold Instr.checkKey
    simp [run_underlying Tryd.underlying9]
  · have := findNow_str a es ks 0 h
    simp only [Nat.zero_add] at this
    simp only [Instr.findKey, KS, Sem.run_bind, run_underlying Tryd.underlying9, Result.andThen_ok, this]
    rfl
section
variable {α β : Type} {K : Cod α} {E : β → Value} {w : World} {r : Nat} {ps : List (α × β)}
/-- the element at a -/
def atK (K : Cod α) (ps : List (α × β)) (a : α) : Option β := (ps.find? (fun p => K.eqb a p.1)).map Prod.snd
theorem keys_of {l : List MapEntry} (h : l.map (fun e => (e.key, e.val)) = ps.map (fun p => (K.enc p.1, E p.2))) : l.map (·.key) = (ps.map Prod.fst).map K.enc := by
  have := congrArg (List.map Prod.fst) h
  rw [List.map_map, List.map_map] at this
  rw [List.map_map]
  exact this
theorem findIdx_at (a : α) : ∀ (ps : List (α × β)) (l : List MapEntry), l.map (fun e => (e.key, e.val)) = ps.map (fun p => (K.enc p.1, E p.2)) →
    ((ps.map Prod.fst).findIdx? (K.eqb a)).map (fun i => ((l[i]?).map (·.val)).getD undef) = (atK K ps a).map E
  | [], [], _ => rfl
  | [], _ :: _, h => by simp at h
  | _ :: _, [], h => by simp at h
  | p :: t, e :: l, h => by
    simp only [List.map_cons, List.cons.injEq, Prod.mk.injEq] at h
    obtain ⟨⟨h1, h2⟩, h3⟩ := h
    have ih := findIdx_at a t l h3
    unfold atK at ih ⊢
    rw [List.map_cons, List.findIdx?_cons, List.find?_cons]
    cases hp : K.eqb a p.1 with
    | true => simp [h2]
    | false =>
      simp only [Bool.false_eq_true, if_false, Option.map_map]
      rw [Option.map_map] at ih
      rw [← ih]
      congr 1
theorem run_look (hK : KeyOk K) {mt et : TypeId} {z : Value} (hm : Tryd.prog.underlying mt = some (.map K.t et)) (hz : ∀ w, (zeroValue et).run Tryd.prog w = .ok z w) (h : MapIs w r K E ps) (a : α) :
    (Instr.lookup mt (.map (some r)) (K.enc a) true).run Tryd.prog w = .ok (.tuple #[((atK K ps a).map E).getD z, .bool (atK K ps a).isSome]) w := by
  obtain ⟨es, clock, hb, hes⟩ := h
  have hf := hK.find a es.toList (ps.map Prod.fst) w (keys_of hes)
  have hi := findIdx_at (K := K) (E := E) a ps es.toList hes
  have hg : (getObj r).run Tryd.prog w = .ok (.map es clock) w := MapKept.run_getObj_map hb
  cases hx : (ps.map Prod.fst).findIdx? (K.eqb a) with
  | none =>
    rw [hx] at hf hi
    have hn : atK K ps a = none := by cases hq : atK K ps a with
      | none => rfl
      | some b => rw [hq] at hi; cases hi
    simp [Instr.lookup, run_underlying hm, hg, hK.check, hf, hz, hn]
  | some i =>
    rw [hx] at hf hi
    simp only [Option.map_some] at hf hi
    cases hq : atK K ps a with
    | none => rw [hq] at hi; cases hi
    | some b =>
      rw [hq] at hi
      simp only [Option.map_some, Option.some.injEq] at hi
      rw [hi] at hf
      simp [Instr.lookup, run_underlying hm, hg, hK.check, hf]
theorem find_none (hK : KeyOk K) {a : α} (hn : atK K ps a = none) {l : List MapEntry} (hes : l.map (fun e => (e.key, e.val)) = ps.map (fun p => (K.enc p.1, E p.2))) (w : World) : (Instr.findKey K.t (K.enc a) l).run Tryd.prog w = .ok none w := by
  have hf := hK.find a l (ps.map Prod.fst) w (keys_of hes)
  have hi := findIdx_at (K := K) (E := E) a ps l hes
  rw [hn] at hi
  cases hx : (ps.map Prod.fst).findIdx? (K.eqb a) with
  | none => rw [hx] at hf; exact hf
  | some i => rw [hx] at hi; cases hi
/-- a store at a new key -/
theorem run_push (hK : KeyOk K) {mt et : TypeId} (hm : Tryd.prog.underlying mt = some (.map K.t et)) (h : MapIs w r K E ps) (a : α) (b : β) (hn : atK K ps a = none) :
    ∃ es clock, (Instr.mapUpdate mt (.map (some r)) (K.enc a) (E b)).run Tryd.prog w = .ok () (w.putObj r (.map es clock)) ∧ MapIs (w.putObj r (.map es clock)) r K E (ps ++ [(a, b)]) := by
  obtain ⟨es, clock, hb, hes⟩ := h
  have hg : (getObj r).run Tryd.prog w = .ok (.map es clock) w := MapKept.run_getObj_map hb
  have hf := find_none (E := E) hK hn hes w
  refine ⟨es.push { key := K.enc a, val := E b, born := clock }, clock + 1, ?_, es.push { key := K.enc a, val := E b, born := clock }, clock + 1, World.putObj_heap_same (Array.getElem?_eq_some_iff.1 hb).1, ?_⟩
  · have hs := fun o => MapKept.run_setObj_map (P := Tryd.prog) o hb
    simp [Instr.mapUpdate, run_underlying hm, hg, hK.check, hf, hs, World.putObj]
  · simp [hes]
theorem run_look1 (hK : KeyOk K) {mt et : TypeId} {z : Value} (hm : Tryd.prog.underlying mt = some (.map K.t et)) (hz : ∀ w, (zeroValue et).run Tryd.prog w = .ok z w) (h : MapIs w r K E ps) (a : α) :
    (Instr.lookup mt (.map (some r)) (K.enc a) false).run Tryd.prog w = .ok (((atK K ps a).map E).getD z) w := by
  obtain ⟨es, clock, hb, hes⟩ := h
  have hf := hK.find a es.toList (ps.map Prod.fst) w (keys_of hes)
  have hi := findIdx_at (K := K) (E := E) a ps es.toList hes
  have hg : (getObj r).run Tryd.prog w = .ok (.map es clock) w := MapKept.run_getObj_map hb
  cases hx : (ps.map Prod.fst).findIdx? (K.eqb a) with
  | none =>
    rw [hx] at hf hi
    have hn : atK K ps a = none := by cases hq : atK K ps a with
      | none => rfl
      | some b => rw [hq] at hi; cases hi
    simp [Instr.lookup, run_underlying hm, hg, hK.check, hf, hz, hn]
  | some i =>
    rw [hx] at hf hi
    simp only [Option.map_some] at hf hi
    cases hq : atK K ps a with
    | none => rw [hq] at hi; cases hi
    | some b =>
      rw [hq] at hi
      simp only [Option.map_some, Option.some.injEq] at hi
      rw [hi] at hf
      simp [Instr.lookup, run_underlying hm, hg, hK.check, hf]
end
/-- a mark: its line, the words ahead of it -/
def mkE (m : Nat × Int) : Value := .agg #[.int .i64 (m.1 : Nat), .int .i64 m.2]
/-- the labels of lines: each with its first line -/
def Lb (w : World) (r : Nat) (ps : List (Tx × (Nat × Int))) : Prop := MapIs w r KS mkE ps
theorem Lb.keep {w w' : World} {r : Nat} {ps : List (Tx × (Nat × Int))} (h : Lb w r ps) (hb : Below w.heap.size w w') : Lb w' r ps := by
  obtain ⟨es, c, h1, h2⟩ := h
  exact ⟨es, c, by rw [hb.block r (Array.getElem?_eq_some_iff.1 h1).1]; exact h1, h2⟩
theorem lookT {w : World} {r : Nat} {ps : List (Tx × (Nat × Int))} (h : Lb w r ps) (a : Tx) : (Instr.lookup 55 (.map (some r)) (.string ⟨a.toArray⟩) true).run Tryd.prog w = .ok (.tuple #[((atK KS ps a).map mkE).getD (.agg #[.int .i64 0, .int .i64 0]), .bool (atK KS ps a).isSome]) w :=
  run_look key_str Tryd.underlying55 Tryd.zeroValue87 h a
theorem lookF {w : World} {r : Nat} {ps : List (Tx × (Nat × Int))} (h : Lb w r ps) (a : Tx) : (Instr.lookup 55 (.map (some r)) (.string ⟨a.toArray⟩) false).run Tryd.prog w = .ok (((atK KS ps a).map mkE).getD (.agg #[.int .i64 0, .int .i64 0])) w :=
  run_look1 key_str Tryd.underlying55 Tryd.zeroValue87 h a
end Go.Proofs.YtncbbllmhohnkaaDoor
