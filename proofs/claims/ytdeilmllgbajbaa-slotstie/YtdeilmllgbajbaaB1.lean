import Derived.Test.YtdeilmllgbajbaaT2
import Derived.MapKept
import Derived.RangeFuncRecord
import Derived.Laws.StructEq
import Derived.Laws.Cover2
import Derived.KernelRfl
namespace Go.Proofs.Ytdeilmllgbajbaa
open Go.RowKit

/-- the keys of a map: their type, how they lie, when two are one -/
structure Cod (α : Type) where
  t : TypeId
  enc : α → Value
  eqb : α → α → Bool
/-- block r is a map with these pairs, in this order -/
def MapIs {α β : Type} (w : World) (r : Nat) (K : Cod α) (E : β → Value) (ps : List (α × β)) : Prop :=
  ∃ (es : Array MapEntry) (clock : Nat), w.heap[r]? = some (.map es clock) ∧ es.toList.map (fun e => (e.key, e.val)) = ps.map (fun p => (K.enc p.1, E p.2))
/-- what a key's type must do -/
structure KeyOk {α : Type} (K : Cod α) : Prop where
  same : ∀ a b, K.eqb a b = true ↔ a = b
  check : ∀ (em : Bool) (a : α) (w : World), (Instr.checkKey em 10000 K.t (K.enc a)).run Try.prog w = .ok () w
  find : ∀ (a : α) (es : List MapEntry) (ks : List α) (w : World), es.map (·.key) = ks.map K.enc →
    (Instr.findKey K.t (K.enc a) es).run Try.prog w = .ok ((ks.findIdx? (K.eqb a)).map (fun i => (i, ((es[i]?).map (·.val)).getD undef))) w
def KI64 : Cod Int := ⟨3, fun a => .int .i64 a, fun a b => a == b⟩
theorem findNow_int (a : Int) : ∀ (es : List MapEntry) (ks : List Int) (i : Nat), es.map (·.key) = ks.map (fun a => Value.int .i64 a) →
    Instr.findNow (.int .i64) (.int .i64 a) es i = some ((ks.findIdx? (fun k => a == k)).map (fun j => (i + j, ((es[j]?).map (·.val)).getD undef)))
  | [], [], i, _ => rfl
  | [], _ :: _, _, h => by simp at h
  | _ :: _, [], _, h => by simp at h
  | e :: es, k :: ks, i, h => by
    simp only [List.map_cons, List.cons.injEq] at h
    obtain ⟨h1, h2⟩ := h
    rw [Instr.findNow, h1]
    simp only [Instr.sameNow, if_true]
    cases hk : (a == k) with
    | true => simp [List.findIdx?_cons, hk]
    | false =>
      simp only []
      rw [findNow_int a es ks (i + 1) h2, List.findIdx?_cons, hk]
      simp only [Bool.false_eq_true, if_false, Option.map_map]
      congr 1
      congr 1
      funext j
      simp [Nat.add_assoc, Nat.add_comm 1 j]
theorem key_int : KeyOk KI64 := by
  refine ⟨fun a b => by simp [KI64], fun em a w => ?_, fun a es ks w h => ?_⟩
  · show (Instr.checkKey em (9999 + 1) 3 (.int .i64 a)).run Try.prog w = _
    unfold Instr.checkKey
    simp [run_underlying Try.underlying3]
  · have := findNow_int a es ks 0 h
    simp only [Nat.zero_add] at this
    simp only [Instr.findKey, KI64, Sem.run_bind, run_underlying Try.underlying3, Result.andThen_ok, this]
    rfl
theorem erase_map {γ δ : Type} (f : γ → δ) : ∀ (l : List γ) (i : Nat), (l.map f).eraseIdx i = (l.eraseIdx i).map f
  | [], _ => by simp
  | _ :: _, 0 => rfl
  | x :: l, i + 1 => by simp [List.eraseIdx_cons_succ, erase_map f l i]
section
variable {α β : Type} {K : Cod α} {E : β → Value} {w : World} {r : Nat} {ps : List (α × β)}
/-- the element at a -/
def atK (K : Cod α) (ps : List (α × β)) (a : α) : Option β := (ps.find? (fun p => K.eqb a p.1)).map Prod.snd
theorem keys_of {l : List MapEntry} (h : l.map (fun e => (e.key, e.val)) = ps.map (fun p => (K.enc p.1, E p.2))) : l.map (·.key) = (ps.map Prod.fst).map K.enc := by
  have := congrArg (List.map Prod.fst) h
  rw [List.map_map, List.map_map] at this
  rw [List.map_map]
  exact this
theorem findIdx_at (a : α) : ∀ (ps : List (α × β)) (l : List MapEntry), l.map (fun e => (e.key, e.val)) = ps.map (fun p => (K.enc p.1, E p.2)) →
    ((ps.map Prod.fst).findIdx? (K.eqb a)).map (fun i => ((l[i]?).map (·.val)).getD undef) = (atK K ps a).map E
  | [], [], _ => rfl
  | [], _ :: _, h => by simp at h
  | _ :: _, [], h => by simp at h
  | p :: t, e :: l, h => by
    simp only [List.map_cons, List.cons.injEq, Prod.mk.injEq] at h
    obtain ⟨⟨h1, h2⟩, h3⟩ := h
    have ih := findIdx_at a t l h3
    unfold atK at ih ⊢
    rw [List.map_cons, List.findIdx?_cons, List.find?_cons]
    cases hp : K.eqb a p.1 with
    | true => simp [h2]
    | false =>
      simp only [Bool.false_eq_true, if_false, Option.map_map]
      rw [Option.map_map] at ih
      rw [← ih]
      congr 1
theorem run_look (hK : KeyOk K) {mt et : TypeId} {z : Value} (hm : Try.prog.underlying mt = some (.map K.t et)) (hz : ∀ w, (zeroValue et).run Try.prog w = .ok z w) (h : MapIs w r K E ps) (a : α) :
    (Instr.lookup mt (.map (some r)) (K.enc a) true).run Try.prog w = .ok (.tuple #[((atK K ps a).map E).getD z, .bool (atK K ps a).isSome]) w := by
  obtain ⟨es, clock, hb, hes⟩ := h
  have hf := hK.find a es.toList (ps.map Prod.fst) w (keys_of hes)
  have hi := findIdx_at (K := K) (E := E) a ps es.toList hes
  have hg : (getObj r).run Try.prog w = .ok (.map es clock) w := MapKept.run_getObj_map hb
  cases hx : (ps.map Prod.fst).findIdx? (K.eqb a) with
  | none =>
    rw [hx] at hf hi
    have hn : atK K ps a = none := by cases hq : atK K ps a with
      | none => rfl
      | some b => rw [hq] at hi; cases hi
    simp [Instr.lookup, run_underlying hm, hg, hK.check, hf, hz, hn]
  | some i =>
    rw [hx] at hf hi
    simp only [Option.map_some] at hf hi
    cases hq : atK K ps a with
    | none => rw [hq] at hi; cases hi
    | some b =>
      rw [hq] at hi
      simp only [Option.map_some, Option.some.injEq] at hi
      rw [hi] at hf
      simp [Instr.lookup, run_underlying hm, hg, hK.check, hf]
theorem find_none (hK : KeyOk K) {a : α} (hn : atK K ps a = none) {l : List MapEntry} (hes : l.map (fun e => (e.key, e.val)) = ps.map (fun p => (K.enc p.1, E p.2))) (w : World) : (Instr.findKey K.t (K.enc a) l).run Try.prog w = .ok none w := by
  have hf := hK.find a l (ps.map Prod.fst) w (keys_of hes)
  have hi := findIdx_at (K := K) (E := E) a ps l hes
  rw [hn] at hi
  cases hx : (ps.map Prod.fst).findIdx? (K.eqb a) with
  | none => rw [hx] at hf; exact hf
  | some i => rw [hx] at hi; cases hi
/-- a store at a new key -/
theorem run_push (hK : KeyOk K) {mt et : TypeId} (hm : Try.prog.underlying mt = some (.map K.t et)) (h : MapIs w r K E ps) (a : α) (b : β) (hn : atK K ps a = none) :
    ∃ es clock, (Instr.mapUpdate mt (.map (some r)) (K.enc a) (E b)).run Try.prog w = .ok () (w.putObj r (.map es clock)) ∧ MapIs (w.putObj r (.map es clock)) r K E (ps ++ [(a, b)]) := by
  obtain ⟨es, clock, hb, hes⟩ := h
  have hg : (getObj r).run Try.prog w = .ok (.map es clock) w := MapKept.run_getObj_map hb
  have hf := find_none (E := E) hK hn hes w
  refine ⟨es.push { key := K.enc a, val := E b, born := clock }, clock + 1, ?_, es.push { key := K.enc a, val := E b, born := clock }, clock + 1, World.putObj_heap_same (Array.getElem?_eq_some_iff.1 hb).1, ?_⟩
  · have hs := fun o => MapKept.run_setObj_map (P := Try.prog) o hb
    simp [Instr.mapUpdate, run_underlying hm, hg, hK.check, hf, hs, World.putObj]
  · simp [hes]
/-- a deletion of a key that is there -/
theorem run_erase (hK : KeyOk K) {mt et : TypeId} (hm : Try.prog.underlying mt = some (.map K.t et)) (h : MapIs w r K E ps) (a : α) (i : Nat) (hi : (ps.map Prod.fst).findIdx? (K.eqb a) = some i) (ats : Array TypeId) (hat : ats[0]? = some mt) (ty : TypeId) :
    ∃ es clock, (Builtin.delete_ ats ty #[.map (some r), K.enc a]).run Try.prog w = .ok (.tuple #[]) (w.putObj r (.map es clock)) ∧ MapIs (w.putObj r (.map es clock)) r K E (ps.eraseIdx i) := by
  obtain ⟨es, clock, hb, hes⟩ := h
  have hg : (getObj r).run Try.prog w = .ok (.map es clock) w := MapKept.run_getObj_map hb
  have hf := hK.find a es.toList (ps.map Prod.fst) w (keys_of hes)
  rw [hi] at hf
  refine ⟨es.eraseIdxIfInBounds i, clock, ?_, es.eraseIdxIfInBounds i, clock, World.putObj_heap_same (Array.getElem?_eq_some_iff.1 hb).1, ?_⟩
  · have hs := fun o => MapKept.run_setObj_map (P := Try.prog) o hb
    simp [Builtin.delete_, hat, run_underlying hm, hg, hK.check, hf, hs, World.putObj]
  · have hl : i < es.size := by
      have h1 := (List.findIdx?_eq_some_iff_findIdx_eq.1 hi).1
      have h2 := congrArg List.length hes
      simp at h1 h2
      omega
    rw [← erase_map, ← hes, erase_map]
    simp [Array.eraseIdxIfInBounds, hl]
end
/-- Cells as keys -/
def KCl : Cod Cl := ⟨28, Cl.val, fun c d => c.s.toList == d.s.toList && (c.a == d.a && c.b == d.b)⟩
theorem eq26' (a b x y : Int) (w : World) : (Op.equalIn 9999 26 (.agg #[.int .i64 a, .int .i64 b]) (.agg #[.int .i64 x, .int .i64 y])).run Try.prog w = .ok (a == x && b == y) w := by
  have u3 := Try.underlying3
  have a3 := Try.isAgg3
  have z3 := Try.sizeOf3
  rw [show (9999 : Nat) = 9998 + 1 from rfl, Op.equalIn]
  simp only [Sem.run_bind, run_underlying Try.underlying26, Result.andThen_ok]
  simp only [Std.Legacy.Range.forIn_eq_forIn_range', Std.Legacy.Range.size, Nat.sub_zero, Nat.add_sub_cancel, Nat.div_one, List.range'_succ, List.range'_zero, List.forIn_cons, List.forIn_nil]
  go_simp
  by_cases h1 : a = x <;> by_cases h2 : b = y <;> simp [h1, h2]
theorem eq28 (c d : Cl) (w : World) : (Op.equal 28 c.val d.val).run Try.prog w = .ok (KCl.eqb c d) w := by
  have h26 := eq26'
  have u9 := Try.underlying9
  simp only [Op.equal, Op.maxDepth, Cl.val, KCl]
  go_simp
  by_cases h1 : c.s.toList = d.s.toList <;> by_cases h2 : c.a = d.a <;> by_cases h3 : c.b = d.b <;> simp [h1, h2, h3]
theorem check26 (em : Bool) (n : Nat) (a b : Int) (w : World) : (Instr.checkKey em (n + 2) 26 (.agg #[.int .i64 a, .int .i64 b])).run Try.prog w = .ok () w := by
  have a3 := Try.isAgg3
  have z3 := Try.sizeOf3
  rw [Instr.checkKey]
  simp only [Sem.run_bind, run_underlying Try.underlying26, Result.andThen_ok]
  simp only [Std.Legacy.Range.forIn_eq_forIn_range', Std.Legacy.Range.size, Nat.sub_zero, Nat.add_sub_cancel, Nat.div_one, List.range'_succ, List.range'_zero, List.forIn_cons, List.forIn_nil]
  simp [part, Instr.checkKey, a3, z3, run_underlying Try.underlying3, go_sem]
theorem check28 (em : Bool) (c : Cl) (w : World) : (Instr.checkKey em 10000 28 c.val).run Try.prog w = .ok () w := by
  have h26 : ∀ (a b : Int) (w : World), (Instr.checkKey em 9999 26 (.agg #[.int .i64 a, .int .i64 b])).run Try.prog w = .ok () w := check26 em 9997
  have hs : ∀ (s : ByteArray) (w : World), (Instr.checkKey em 9999 9 (.string s)).run Try.prog w = .ok () w := by
    intro s w
    rw [show (9999 : Nat) = 9998 + 1 from rfl, Instr.checkKey]
    simp [run_underlying Try.underlying9]
  have a9 := Try.isAgg9
  have a26 := Try.isAgg26
  have z26 := Try.sizeOf26
  rw [show (10000 : Nat) = 9999 + 1 from rfl, Instr.checkKey]
  simp only [Cl.val, Sem.run_bind, run_underlying Try.underlying28, Result.andThen_ok]
  simp [part, a9, a26, z26, hs, h26, go_sem]
theorem ask28 (c : Cl) : ∀ (es : List MapEntry) (ks : List Cl) (i : Nat) (w : World), es.map (·.key) = ks.map Cl.val →
    (Instr.findAsking 28 c.val es i).run Try.prog w = .ok ((ks.findIdx? (KCl.eqb c)).map (fun j => (i + j, ((es[j]?).map (·.val)).getD undef))) w
  | [], [], i, w, _ => rfl
  | [], _ :: _, _, _, h => by simp at h
  | _ :: _, [], _, _, h => by simp at h
  | e :: es, k :: ks, i, w, h => by
    simp only [List.map_cons, List.cons.injEq] at h
    obtain ⟨h1, h2⟩ := h
    rw [Instr.findAsking, Sem.run_bind, h1, eq28, Result.andThen_ok, List.findIdx?_cons]
    cases hk : KCl.eqb c k with
    | true => simp
    | false =>
      simp only [Bool.false_eq_true, if_false, Option.map_map]
      rw [ask28 c es ks (i + 1) w h2]
      congr 1
      congr 1
      funext j
      simp [Nat.add_assoc, Nat.add_comm 1 j]
theorem now28 (c : Cl) (fs : Array Field) : ∀ (es : List MapEntry) (i : Nat), es ≠ [] → Instr.findNow (.struct fs) c.val es i = none
  | [], _, h => absurd rfl h
  | e :: es, i, _ => by rw [Instr.findNow]; simp [Instr.sameNow]
theorem key_cl : KeyOk KCl := by
  refine ⟨fun c d => ?_, check28, fun c es ks w h => ?_⟩
  · cases c with
    | mk s a b =>
      cases d with
      | mk s' a' b' =>
        have h : s.toList = s'.toList ↔ s = s' := by
          rw [ByteArray.toList_eq, ByteArray.toList_eq]
          cases s; cases s'
          simp [Array.toList_inj]
        simp [KCl, h]
  · have ha := ask28 c es ks 0 w h
    simp only [Nat.zero_add] at ha
    show (Instr.findKey 28 c.val es).run Try.prog w = _
    unfold Instr.findKey
    rw [Sem.run_bind, run_underlying Try.underlying28, Result.andThen_ok]
    cases es with
    | nil =>
      cases ks with
      | nil => rfl
      | cons _ _ => simp at h
    | cons e es =>
      rw [now28 _ _ _ _ (by simp)]
      exact ha
theorem zero3 (w : World) : (zeroValue 3).run Try.prog w = .ok (.int .i64 0) w := by kernel_rfl
theorem zero28 (w : World) : (zeroValue 28).run Try.prog w = .ok (.agg #[.string ⟨#[]⟩, .int .i64 0, .int .i64 0]) w := by kernel_rfl
end Go.Proofs.Ytdeilmllgbajbaa
