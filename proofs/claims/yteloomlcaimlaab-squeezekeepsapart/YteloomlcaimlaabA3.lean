import Derived.Test.YteloomlcaimlaabA2
import Derived.RangeFuncRecord
namespace Go.Proofs.Yteloomlcaimlaab
open Go.RowKit
/-- the keys of a map: their type, how they lie, when two are one -/
structure Cod (α : Type) where
  t : TypeId
  enc : α → Value
  eqb : α → α → Bool
/-- block r is a map with these pairs, in this order -/
def MapIs {α β : Type} (w : World) (r : Nat) (K : Cod α) (E : β → Value) (ps : List (α × β)) : Prop :=
  ∃ (es : Array MapEntry) (clock : Nat), w.heap[r]? = some (.map es clock) ∧ es.toList.map (fun e => (e.key, e.val)) = ps.map (fun p => (K.enc p.1, E p.2))
/-- what a key's type must do -/
structure KeyOk {α : Type} (K : Cod α) : Prop where
  same : ∀ a b, K.eqb a b = true ↔ a = b
  check : ∀ (em : Bool) (a : α) (w : World), (Instr.checkKey em 10000 K.t (K.enc a)).run Try.prog w = .ok () w
  find : ∀ (a : α) (es : List MapEntry) (ks : List α) (w : World), es.map (·.key) = ks.map K.enc →
    (Instr.findKey K.t (K.enc a) es).run Try.prog w = .ok ((ks.findIdx? (K.eqb a)).map (fun i => (i, ((es[i]?).map (·.val)).getD undef))) w
def KU : Cod Nat := ⟨40, fun a => .int .u32 (a : Nat), fun a b => a == b⟩
theorem findNow_u32 (a : Nat) : ∀ (es : List MapEntry) (ks : List Nat) (i : Nat), es.map (·.key) = ks.map (fun a => Value.int .u32 (a : Nat)) →
    Instr.findNow (.int .u32) (.int .u32 (a : Nat)) es i = some ((ks.findIdx? (fun k => a == k)).map (fun j => (i + j, ((es[j]?).map (·.val)).getD undef)))
  | [], [], i, _ => rfl
  | [], _ :: _, _, h => by simp at h
  | _ :: _, [], _, h => by simp at h
  | e :: es, k :: ks, i, h => by
    simp only [List.map_cons, List.cons.injEq] at h
    obtain ⟨h1, h2⟩ := h
    rw [Instr.findNow, h1]
    simp only [Instr.sameNow, if_true]
    have hq : ((a : Int) == (k : Int)) = (a == k) := by
      by_cases h : a = k
      · subst h; rw [eqN a a rfl]; simp
      · rw [neN a k h]; simp [h]
    cases hk : (a == k) with
    | true => simp [List.findIdx?_cons, hk, hq]
    | false =>
      simp only [hq, hk]
      rw [findNow_u32 a es ks (i + 1) h2, List.findIdx?_cons, hk]
      simp only [Bool.false_eq_true, if_false, Option.map_map]
      congr 1
      congr 1
      funext j
      simp [Nat.add_assoc, Nat.add_comm 1 j]
theorem key_u32 : KeyOk KU := by
  refine ⟨fun a b => by simp [KU], fun em a w => ?_, fun a es ks w h => ?_⟩
  · show (Instr.checkKey em (9999 + 1) 40 (.int .u32 (a : Nat))).run Try.prog w = _
    unfold Instr.checkKey
    simp [run_underlying Try.underlying40]
  · have := findNow_u32 a es ks 0 h
    simp only [Nat.zero_add] at this
    simp only [Instr.findKey, KU, Sem.run_bind, run_underlying Try.underlying40, Result.andThen_ok, this]
    rfl
section
variable {α β : Type} {K : Cod α} {E : β → Value} {w : World} {r : Nat} {ps : List (α × β)}
/-- the element at a -/
def atK (K : Cod α) (ps : List (α × β)) (a : α) : Option β := (ps.find? (fun p => K.eqb a p.1)).map Prod.snd
theorem keys_of {l : List MapEntry} (h : l.map (fun e => (e.key, e.val)) = ps.map (fun p => (K.enc p.1, E p.2))) : l.map (·.key) = (ps.map Prod.fst).map K.enc := by
  have := congrArg (List.map Prod.fst) h
  rw [List.map_map, List.map_map] at this
  rw [List.map_map]
  exact this
theorem findIdx_at (a : α) : ∀ (ps : List (α × β)) (l : List MapEntry), l.map (fun e => (e.key, e.val)) = ps.map (fun p => (K.enc p.1, E p.2)) →
    ((ps.map Prod.fst).findIdx? (K.eqb a)).map (fun i => ((l[i]?).map (·.val)).getD undef) = (atK K ps a).map E
  | [], [], _ => rfl
  | [], _ :: _, h => by simp at h
  | _ :: _, [], h => by simp at h
  | p :: t, e :: l, h => by
    simp only [List.map_cons, List.cons.injEq, Prod.mk.injEq] at h
    obtain ⟨⟨h1, h2⟩, h3⟩ := h
    have ih := findIdx_at a t l h3
    unfold atK at ih ⊢
    rw [List.map_cons, List.findIdx?_cons, List.find?_cons]
    cases hp : K.eqb a p.1 with
    | true => simp [h2]
    | false =>
      simp only [Bool.false_eq_true, if_false, Option.map_map]
      rw [Option.map_map] at ih
      rw [← ih]
      congr 1
theorem run_look (hK : KeyOk K) {mt et : TypeId} {z : Value} (hm : Try.prog.underlying mt = some (.map K.t et)) (hz : ∀ w, (zeroValue et).run Try.prog w = .ok z w) (h : MapIs w r K E ps) (a : α) :
    (Instr.lookup mt (.map (some r)) (K.enc a) true).run Try.prog w = .ok (.tuple #[((atK K ps a).map E).getD z, .bool (atK K ps a).isSome]) w := by
  obtain ⟨es, clock, hb, hes⟩ := h
  have hf := hK.find a es.toList (ps.map Prod.fst) w (keys_of hes)
  have hi := findIdx_at (K := K) (E := E) a ps es.toList hes
  have hg : (getObj r).run Try.prog w = .ok (.map es clock) w := MapKept.run_getObj_map hb
  cases hx : (ps.map Prod.fst).findIdx? (K.eqb a) with
  | none =>
    rw [hx] at hf hi
    have hn : atK K ps a = none := by cases hq : atK K ps a with
      | none => rfl
      | some b => rw [hq] at hi; cases hi
    simp [Instr.lookup, run_underlying hm, hg, hK.check, hf, hz, hn]
  | some i =>
    rw [hx] at hf hi
    simp only [Option.map_some] at hf hi
    cases hq : atK K ps a with
    | none => rw [hq] at hi; cases hi
    | some b =>
      rw [hq] at hi
      simp only [Option.map_some, Option.some.injEq] at hi
      rw [hi] at hf
      simp [Instr.lookup, run_underlying hm, hg, hK.check, hf]
theorem find_none (hK : KeyOk K) {a : α} (hn : atK K ps a = none) {l : List MapEntry} (hes : l.map (fun e => (e.key, e.val)) = ps.map (fun p => (K.enc p.1, E p.2))) (w : World) : (Instr.findKey K.t (K.enc a) l).run Try.prog w = .ok none w := by
  have hf := hK.find a l (ps.map Prod.fst) w (keys_of hes)
  have hi := findIdx_at (K := K) (E := E) a ps l hes
  rw [hn] at hi
  cases hx : (ps.map Prod.fst).findIdx? (K.eqb a) with
  | none => rw [hx] at hf; exact hf
  | some i => rw [hx] at hi; cases hi
/-- a store at a new key -/
theorem run_push (hK : KeyOk K) {mt et : TypeId} (hm : Try.prog.underlying mt = some (.map K.t et)) (h : MapIs w r K E ps) (a : α) (b : β) (hn : atK K ps a = none) :
    ∃ es clock, (Instr.mapUpdate mt (.map (some r)) (K.enc a) (E b)).run Try.prog w = .ok () (w.putObj r (.map es clock)) ∧ MapIs (w.putObj r (.map es clock)) r K E (ps ++ [(a, b)]) := by
  obtain ⟨es, clock, hb, hes⟩ := h
  have hg : (getObj r).run Try.prog w = .ok (.map es clock) w := MapKept.run_getObj_map hb
  have hf := find_none (E := E) hK hn hes w
  refine ⟨es.push { key := K.enc a, val := E b, born := clock }, clock + 1, ?_, es.push { key := K.enc a, val := E b, born := clock }, clock + 1, World.putObj_heap_same (Array.getElem?_eq_some_iff.1 hb).1, ?_⟩
  · have hs := fun o => MapKept.run_setObj_map (P := Try.prog) o hb
    simp [Instr.mapUpdate, run_underlying hm, hg, hK.check, hf, hs, World.putObj]
  · simp [hes]
end
theorem atK_set {ps : List (Nat × Nat)} {a b : Nat} : ∀ {i : Nat}, (ps.map Prod.fst).findIdx? (KU.eqb a) = some i → ∀ c, atK KU (ps.set i (a, b)) c = if c = a then some b else atK KU ps c := by
  induction ps with
  | nil => intro i h; simp at h
  | cons p t ih =>
    intro i h c
    rw [List.map_cons, List.findIdx?_cons] at h
    cases hp : KU.eqb a p.1 with
    | true =>
      rw [hp] at h
      simp only [if_true, Option.some.injEq] at h
      subst h
      have hp' : a = p.1 := by simpa [KU] using hp
      rw [List.set_cons_zero]
      unfold atK
      rw [List.find?_cons, List.find?_cons]
      by_cases hc : c = a
      · subst hc; simp [KU]
      · have h1 : KU.eqb c a = false := by simp [KU, hc]
        rw [← hp', h1, if_neg hc]
    | false =>
      rw [hp] at h
      simp only [Bool.false_eq_true, if_false] at h
      obtain ⟨j, hj, rfl⟩ := Option.map_eq_some_iff.1 h
      rw [List.set_cons_succ]
      have := ih hj c
      unfold atK at this ⊢
      rw [List.find?_cons, List.find?_cons]
      cases hc : KU.eqb c p.1 with
      | true =>
        have h1 : c ≠ a := by
          intro e
          subst e
          rw [hp] at hc
          cases hc
        simp [h1]
      | false => exact this
theorem atK_push {ps : List (Nat × Nat)} {a b : Nat} (h : atK KU ps a = none) (c : Nat) : atK KU (ps ++ [(a, b)]) c = if c = a then some b else atK KU ps c := by
  unfold atK at h ⊢
  rw [List.find?_append]
  by_cases hc : c = a
  · subst hc
    rw [Option.map_eq_none_iff] at h
    rw [h]
    simp [KU]
  · have h1 : KU.eqb c a = false := by simp [KU, hc]
    rw [if_neg hc]
    simp [h1]
theorem es_set {es : Array MapEntry} {ps : List (Nat × Nat)} {i a b : Nat} (h : es.toList.map (fun e => (e.key, e.val)) = ps.map (fun p => (KU.enc p.1, Value.int .i64 (p.2 : Nat)))) :
    (es.modify i fun e => { e with key := KU.enc a, val := .int .i64 (b : Nat) }).toList.map (fun e => (e.key, e.val)) = (ps.set i (a, b)).map (fun p => (KU.enc p.1, Value.int .i64 (p.2 : Nat))) := by
  rw [List.map_set, ← h]
  apply List.ext_getElem?
  intro j
  rw [List.getElem?_map, Array.getElem?_toList, Array.getElem?_modify, List.getElem?_set, List.getElem?_map, Array.getElem?_toList]
  by_cases hj : i = j
  · subst hj
    by_cases hl : i < es.size
    · simp [hl]
    · simp [hl]
  · simp [hj]
/-- a map of numbers by numbers -/
def Mp (w : World) (r : Nat) (f : Nat → Option Nat) : Prop := ∃ ps : List (Nat × Nat), MapIs w r KU (fun n : Nat => Value.int .i64 (n : Nat)) ps ∧ ∀ a, atK KU ps a = f a
theorem Mp.look {w : World} {r : Nat} {f : Nat → Option Nat} (h : Mp w r f) (a : Nat) : (Instr.lookup 43 (.map (some r)) (.int .u32 (a : Nat)) true).run Try.prog w = .ok (.tuple #[.int .i64 ((f a).getD 0 : Nat), .bool (f a).isSome]) w := by
  obtain ⟨ps, h1, h2⟩ := h
  have := run_look (z := .int .i64 0) key_u32 Try.underlying43 (fun w => by kernel_rfl) h1 a
  rw [h2] at this
  cases hf : f a with
  | none => rw [hf] at this; exact this
  | some n => rw [hf] at this; exact this
theorem Mp.put {w : World} {r : Nat} {f : Nat → Option Nat} (h : Mp w r f) (a b : Nat) : ∃ es clock, (Instr.mapUpdate 43 (.map (some r)) (.int .u32 (a : Nat)) (.int .i64 (b : Nat))).run Try.prog w = .ok () (w.putObj r (.map es clock)) ∧ Mp (w.putObj r (.map es clock)) r (fun c => if c = a then some b else f c) := by
  obtain ⟨ps, h1, h2⟩ := h
  cases hn : atK KU ps a with
  | none =>
    obtain ⟨es, clock, h3, h4⟩ := run_push (E := fun n : Nat => Value.int .i64 (n : Nat)) key_u32 Try.underlying43 h1 a b hn
    exact ⟨es, clock, h3, _, h4, fun c => by rw [atK_push hn, h2]⟩
  | some m =>
    obtain ⟨es, clock, hb, hes⟩ := h1
    have hg : (getObj r).run Try.prog w = .ok (.map es clock) w := MapKept.run_getObj_map hb
    have hf := key_u32.find a es.toList (ps.map Prod.fst) w (keys_of (K := KU) (E := fun n : Nat => Value.int .i64 (n : Nat)) hes)
    cases hx : (ps.map Prod.fst).findIdx? (KU.eqb a) with
    | none =>
      have hi := findIdx_at (K := KU) (E := fun n : Nat => Value.int .i64 (n : Nat)) a ps es.toList hes
      rw [hx, hn] at hi
      cases hi
    | some i =>
      rw [hx] at hf
      simp only [Option.map_some] at hf
      have hkey : ((es[i]?).map (·.key)).getD (.int .u32 (a : Nat)) = .int .u32 (a : Nat) := by
        have h5 := keys_of (K := KU) (E := fun n : Nat => Value.int .i64 (n : Nat)) hes
        have h6 := congrArg (fun l => l[i]?) h5
        simp only [List.getElem?_map, Array.getElem?_toList] at h6
        rw [h6]
        obtain ⟨h7, h8⟩ := List.findIdx?_eq_some_iff_getElem.1 hx
        rw [List.length_map] at h7
        rw [List.getElem?_eq_getElem h7]
        have h9 : a = (ps[i]).1 := by simpa [KU] using h8.1
        simp [KU, ← h9]
      have hstay : (Instr.keyThatStays (.int .u32 (a : Nat)) (.int .u32 (a : Nat))).run Try.prog w = .ok (.int .u32 (a : Nat)) w := by
        unfold Instr.keyThatStays
        simp [Instr.sameBits]
      refine ⟨es.modify i fun e => { e with key := KU.enc a, val := .int .i64 (b : Nat) }, clock, ?_, ps.set i (a, b), ⟨_, _, World.putObj_heap_same (Array.getElem?_eq_some_iff.1 hb).1, es_set hes⟩, fun c => by rw [atK_set hx, h2]⟩
      have hs := fun o => MapKept.run_setObj_map (P := Try.prog) o hb
      have hck := key_u32.check false a w
      have hu := Try.underlying43
      simp only [KU] at hf hck
      simp [Instr.mapUpdate, run_underlying hu, hg, hck, hf, hs, hkey, hstay, World.putObj, KU]
theorem Mp.keep {w w' : World} {r : Nat} {f : Nat → Option Nat} (h : Mp w r f) (hb : w'.heap[r]? = w.heap[r]?) : Mp w' r f := by
  obtain ⟨ps, ⟨es, c, h1, h2⟩, h3⟩ := h
  exact ⟨ps, ⟨es, c, by rw [hb]; exact h1, h2⟩, h3⟩
theorem Mp.new (w : World) : Mp (w.alloc (.map #[] 0)) w.heap.size (fun _ => none) := ⟨[], ⟨#[], 0, heap_alloc_last _ _, rfl⟩, fun _ => rfl⟩
end Go.Proofs.Yteloomlcaimlaab
