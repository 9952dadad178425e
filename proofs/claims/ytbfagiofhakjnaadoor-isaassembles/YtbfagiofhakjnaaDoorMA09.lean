import Derived.MapKept
import Derived.Laws.Cover2
import Derived.RangeFuncRecord
import Derived.Test.YtbfagiofhakjnaaDoorMA00
import Derived.Test.YtbfagiofhakjnaaDoorMA08
namespace Go.Proofs.YtbfagiofhakjnaaDoor
open Go.RowKit
/-- the keys of a map: their type, how they lie, when two are one -/
structure Cod (α : Type) where
  t : TypeId
  enc : α → Value
  eqb : α → α → Bool
/-- block r is a map with these pairs, in this order -/
def MapIs {α β : Type} (w : World) (r : Nat) (K : Cod α) (E : β → Value) (ps : List (α × β)) : Prop :=
  ∃ (es : Array MapEntry) (clock : Nat), w.heap[r]? = some (.map es clock) ∧ es.toList.map (fun e => (e.key, e.val)) = ps.map (fun p => (K.enc p.1, E p.2))
/-- what a key's type must do -/
structure KeyOk {α : Type} (K : Cod α) : Prop where
  same : ∀ a b, K.eqb a b = true ↔ a = b
  check : ∀ (em : Bool) (a : α) (w : World), (Instr.checkKey em 10000 K.t (K.enc a)).run Tryd.prog w = .ok () w
  find : ∀ (a : α) (es : List MapEntry) (ks : List α) (w : World), es.map (·.key) = ks.map K.enc →
    (Instr.findKey K.t (K.enc a) es).run Tryd.prog w = .ok ((ks.findIdx? (K.eqb a)).map (fun i => (i, ((es[i]?).map (·.val)).getD undef))) w
def KS : Cod Tx := ⟨9, fun s => .string ⟨s.toArray⟩, fun a b => a == b⟩
theorem findNow_str (a : Tx) : ∀ (es : List MapEntry) (ks : List Tx) (i : Nat), es.map (·.key) = ks.map (fun a => Value.string ⟨a.toArray⟩) →
    Instr.findNow .string (.string ⟨a.toArray⟩) es i = some ((ks.findIdx? (fun k => a == k)).map (fun j => (i + j, ((es[j]?).map (·.val)).getD undef)))
  | [], [], i, _ => rfl
  | [], _ :: _, _, h => by simp at h
  | _ :: _, [], _, h => by simp at h
  | e :: es, k :: ks, i, h => by
    simp only [List.map_cons, List.cons.injEq] at h
    obtain ⟨h1, h2⟩ := h
    rw [Instr.findNow, h1]
    simp only [Instr.sameNow]
    have hq : ((⟨a.toArray⟩ : ByteArray) == (⟨k.toArray⟩ : ByteArray)) = (a == k) := by
      rw [beq_toListBytes, Lib.toList_data, Lib.toList_data]
    cases hk : (a == k) with
    | true => simp [List.findIdx?_cons, hk, hq]
    | false =>
      simp only [hq, hk]
      rw [findNow_str a es ks (i + 1) h2, List.findIdx?_cons, hk]
      simp only [Bool.false_eq_true, if_false, Option.map_map]
      congr 1
      congr 1
      funext j
      simp [Nat.add_assoc, Nat.add_comm 1 j]
theorem key_str : KeyOk KS := by
  refine ⟨fun a b => by simp [KS], fun em a w => ?_, fun a es ks w h => ?_⟩
  · show (Instr.checkKey em (9999 + 1) 9 (.string ⟨a.toArray⟩)).run Tryd.prog w = _
    unfold Instr.checkKey
    simp [run_underlying Tryd.underlying9]
  · have := findNow_str a es ks 0 h
    simp only [Nat.zero_add] at this
    simp only [Instr.findKey, KS, Sem.run_bind, run_underlying Tryd.underlying9, Result.andThen_ok, this]
    rfl
section
variable {α β : Type} {K : Cod α} {E : β → Value} {w : World} {r : Nat} {ps : List (α × β)}
/-- the element at a -/
def atK (K : Cod α) (ps : List (α × β)) (a : α) : Option β := (ps.find? (fun p => K.eqb a p.1)).map Prod.snd
theorem keys_of {l : List MapEntry} (h : l.map (fun e => (e.key, e.val)) = ps.map (fun p => (K.enc p.1, E p.2))) : l.map (·.key) = (ps.map Prod.fst).map K.enc := by
  have := congrArg (List.map Prod.fst) h
  rw [List.map_map, List.map_map] at this
  rw [List.map_map]
  exact this
theorem findIdx_at (a : α) : ∀ (ps : List (α × β)) (l : List MapEntry), l.map (fun e => (e.key, e.val)) = ps.map (fun p => (K.enc p.1, E p.2)) →
    ((ps.map Prod.fst).findIdx? (K.eqb a)).map (fun i => ((l[i]?).map (·.val)).getD undef) = (atK K ps a).map E
  | [], [], _ => rfl
  | [], _ :: _, h => by simp at h
  | _ :: _, [], h => by simp at h
  | p :: t, e :: l, h => by
    simp only [List.map_cons, List.cons.injEq, Prod.mk.injEq] at h
    obtain ⟨⟨h1, h2⟩, h3⟩ := h
    have ih := findIdx_at a t l h3
    unfold atK at ih ⊢
    rw [List.map_cons, List.findIdx?_cons, List.find?_cons]
    cases hp : K.eqb a p.1 with
    | true => simp [h2]
    | false =>
      simp only [Bool.false_eq_true, if_false, Option.map_map]
      rw [Option.map_map] at ih
      rw [← ih]
      congr 1
theorem run_look (hK : KeyOk K) {mt et : TypeId} {z : Value} (hm : Tryd.prog.underlying mt = some (.map K.t et)) (hz : ∀ w, (zeroValue et).run Tryd.prog w = .ok z w) (h : MapIs w r K E ps) (a : α) :
    (Instr.lookup mt (.map (some r)) (K.enc a) true).run Tryd.prog w = .ok (.tuple #[((atK K ps a).map E).getD z, .bool (atK K ps a).isSome]) w := by
  obtain ⟨es, clock, hb, hes⟩ := h
  have hf := hK.find a es.toList (ps.map Prod.fst) w (keys_of hes)
  have hi := findIdx_at (K := K) (E := E) a ps es.toList hes
  have hg : (getObj r).run Tryd.prog w = .ok (.map es clock) w := MapKept.run_getObj_map hb
  cases hx : (ps.map Prod.fst).findIdx? (K.eqb a) with
  | none =>
    rw [hx] at hf hi
    have hn : atK K ps a = none := by cases hq : atK K ps a with
      | none => rfl
      | some b => rw [hq] at hi; cases hi
    simp [Instr.lookup, run_underlying hm, hg, hK.check, hf, hz, hn]
  | some i =>
    rw [hx] at hf hi
    simp only [Option.map_some] at hf hi
    cases hq : atK K ps a with
    | none => rw [hq] at hi; cases hi
    | some b =>
      rw [hq] at hi
      simp only [Option.map_some, Option.some.injEq] at hi
      rw [hi] at hf
      simp [Instr.lookup, run_underlying hm, hg, hK.check, hf]
theorem find_none (hK : KeyOk K) {a : α} (hn : atK K ps a = none) {l : List MapEntry} (hes : l.map (fun e => (e.key, e.val)) = ps.map (fun p => (K.enc p.1, E p.2))) (w : World) : (Instr.findKey K.t (K.enc a) l).run Tryd.prog w = .ok none w := by
  have hf := hK.find a l (ps.map Prod.fst) w (keys_of hes)
  have hi := findIdx_at (K := K) (E := E) a ps l hes
  rw [hn] at hi
  cases hx : (ps.map Prod.fst).findIdx? (K.eqb a) with
  | none => rw [hx] at hf; exact hf
  | some i => rw [hx] at hi; cases hi
/-- a store at a new key -/
theorem run_push (hK : KeyOk K) {mt et : TypeId} (hm : Tryd.prog.underlying mt = some (.map K.t et)) (h : MapIs w r K E ps) (a : α) (b : β) (hn : atK K ps a = none) :
    ∃ es clock, (Instr.mapUpdate mt (.map (some r)) (K.enc a) (E b)).run Tryd.prog w = .ok () (w.putObj r (.map es clock)) ∧ MapIs (w.putObj r (.map es clock)) r K E (ps ++ [(a, b)]) := by
  obtain ⟨es, clock, hb, hes⟩ := h
  have hg : (getObj r).run Tryd.prog w = .ok (.map es clock) w := MapKept.run_getObj_map hb
  have hf := find_none (E := E) hK hn hes w
  refine ⟨es.push { key := K.enc a, val := E b, born := clock }, clock + 1, ?_, es.push { key := K.enc a, val := E b, born := clock }, clock + 1, World.putObj_heap_same (Array.getElem?_eq_some_iff.1 hb).1, ?_⟩
  · have hs := fun o => MapKept.run_setObj_map (P := Tryd.prog) o hb
    simp [Instr.mapUpdate, run_underlying hm, hg, hK.check, hf, hs, World.putObj]
  · simp [hes]
theorem run_look1 (hK : KeyOk K) {mt et : TypeId} {z : Value} (hm : Tryd.prog.underlying mt = some (.map K.t et)) (hz : ∀ w, (zeroValue et).run Tryd.prog w = .ok z w) (h : MapIs w r K E ps) (a : α) :
    (Instr.lookup mt (.map (some r)) (K.enc a) false).run Tryd.prog w = .ok (((atK K ps a).map E).getD z) w := by
  obtain ⟨es, clock, hb, hes⟩ := h
  have hf := hK.find a es.toList (ps.map Prod.fst) w (keys_of hes)
  have hi := findIdx_at (K := K) (E := E) a ps es.toList hes
  have hg : (getObj r).run Tryd.prog w = .ok (.map es clock) w := MapKept.run_getObj_map hb
  cases hx : (ps.map Prod.fst).findIdx? (K.eqb a) with
  | none =>
    rw [hx] at hf hi
    have hn : atK K ps a = none := by cases hq : atK K ps a with
      | none => rfl
      | some b => rw [hq] at hi; cases hi
    simp [Instr.lookup, run_underlying hm, hg, hK.check, hf, hz, hn]
  | some i =>
    rw [hx] at hf hi
    simp only [Option.map_some] at hf hi
    cases hq : atK K ps a with
    | none => rw [hq] at hi; cases hi
    | some b =>
      rw [hq] at hi
      simp only [Option.map_some, Option.some.injEq] at hi
      rw [hi] at hf
      simp [Instr.lookup, run_underlying hm, hg, hK.check, hf]
end
/-- a mark: its line, the words ahead of it -/
def mkE (m : Nat × Int) : Value := .agg #[.int .i64 (m.1 : Nat), .int .i64 m.2]
/-- the labels of lines: each with its first line -/
def Lb (w : World) (r : Nat) (ps : List (Tx × (Nat × Int))) : Prop := MapIs w r KS mkE ps
theorem Lb.keep {w w' : World} {r : Nat} {ps : List (Tx × (Nat × Int))} (h : Lb w r ps) (hb : Below w.heap.size w w') : Lb w' r ps := by
  obtain ⟨es, c, h1, h2⟩ := h
  exact ⟨es, c, by rw [hb.block r (Array.getElem?_eq_some_iff.1 h1).1]; exact h1, h2⟩
theorem lookT {w : World} {r : Nat} {ps : List (Tx × (Nat × Int))} (h : Lb w r ps) (a : Tx) : (Instr.lookup 30 (.map (some r)) (.string ⟨a.toArray⟩) true).run Tryd.prog w = .ok (.tuple #[((atK KS ps a).map mkE).getD (.agg #[.int .i64 0, .int .i64 0]), .bool (atK KS ps a).isSome]) w :=
  run_look key_str Tryd.underlying30 Tryd.zeroValue50 h a
theorem lookF {w : World} {r : Nat} {ps : List (Tx × (Nat × Int))} (h : Lb w r ps) (a : Tx) : (Instr.lookup 30 (.map (some r)) (.string ⟨a.toArray⟩) false).run Tryd.prog w = .ok (((atK KS ps a).map mkE).getD (.agg #[.int .i64 0, .int .i64 0])) w :=
  run_look1 key_str Tryd.underlying30 Tryd.zeroValue50 h a
end Go.Proofs.YtbfagiofhakjnaaDoor

namespace Go.Proofs.YtbfagiofhakjnaaDoor
open Go.RowKit
/-- the labels of the first k lines -/
def lbs (ls : List Ln) : Nat → List (Tx × (Nat × Int))
  | 0 => []
  | k + 1 => match ls[k]? with
    | none => lbs ls k
    | some l => if l.label ≠ [] ∧ atK KS (lbs ls k) l.label = none then lbs ls k ++ [(l.label, (k, ahd ls k))] else lbs ls k
theorem ahd_step {ls : List Ln} {k : Nat} (h : k < ls.length) : ahd ls (k + 1) = ahd ls k + ls[k].words := by
  unfold ahd
  rw [List.take_succ_eq_append_getElem h, List.map_append, List.sum_append]
  simp
theorem ahd_bound {ls : List Ln} (hw : ∀ l ∈ ls, 0 ≤ l.words ∧ l.words ≤ 512) : ∀ k, k ≤ ls.length → 0 ≤ ahd ls k ∧ ahd ls k ≤ 512 * k
  | 0, _ => by simp [ahd]
  | k + 1, h => by
    have ih := ahd_bound hw k (by omega)
    have h2 := hw ls[k] (List.getElem_mem h)
    rw [ahd_step h]
    omega
/-- lines that lie in a row -/
def LRow (W : World) (ao : Option Addr) (ls : List Ln) : Prop := ∀ k (h : k < ls.length), ∃ a : Addr, ao = some a ∧ ∀ j v, (lnL ls[k])[j]? = some v → W.cell? ((a.add (k * 8)).add j) = some v
theorem LRow.keep {W W' : World} {ao : Option Addr} {ls : List Ln} (h : LRow W ao ls) (hb : Below W.heap.size W W') : LRow W' ao ls := fun k hk => by
  obtain ⟨a, h1, h2⟩ := h k hk
  exact ⟨a, h1, fun j v hv => by rw [hb.cell (cell_blk (h2 j v hv))]; exact h2 j v hv⟩
theorem LRow.of {W : World} {base n : Nat} {e : TypeId} {v : Value} {ls : List Ln} (h : W.ownsRow base e 8 v n (lns ls)) : n = ls.length ∧ ∃ ao c, v = .slice ao n c ∧ LRow W ao ls := by
  have hl := h.1
  rw [lns_len] at hl
  refine ⟨by omega, ?_⟩
  rcases h.2 with ⟨h1, h2⟩ | ⟨g, cap, cur, h1, h2, h3, _, _, _, h7⟩
  · exact ⟨none, 0, by rw [h1, h2], fun j hj => by omega⟩
  · refine ⟨_, _, h1, fun k hk => ⟨_, rfl, fun j v hv => ?_⟩⟩
    have hj : j < 8 := by
      have := (List.getElem?_eq_some_iff.1 hv).1
      simpa [lnL] using this
    rw [add0, Lib.add_plain, Lib.cell_of_heap h3]
    have e : (cur.toList.take (n * 8))[k * 8 + j]? = some v := by rw [h7, lns_at hk hj]; exact hv
    rw [List.getElem?_take] at e
    split at e
    · rw [← Array.getElem?_toList]; exact e
    · simp at e
/-- w1 is w but for the block r -/
structure Upd (w w1 : World) (r : Nat) : Prop where
  os : w1.os = w.os
  tape : w1.tape = w.tape
  output : w1.output = w.output
  size : w1.heap.size = w.heap.size
  block : ∀ b, b ≠ r → w1.heap[b]? = w.heap[b]?
theorem lb_push {w : World} {r : Nat} {ps : List (Tx × (Nat × Int))} (h : Lb w r ps) (a : Tx) (k : Nat) (z : Int) (hn : atK KS ps a = none) :
    ∃ w1, (Instr.mapUpdate 30 (.map (some r)) (.string ⟨a.toArray⟩) (.agg #[.int .i64 (k : Nat), .int .i64 z])).run Tryd.prog w = .ok () w1 ∧ Lb w1 r (ps ++ [(a, (k, z))]) ∧ Upd w w1 r := by
  obtain ⟨es, c, h1, h2⟩ := run_push key_str Tryd.underlying30 h a (k, z) hn
  exact ⟨_, h1, h2, ⟨rfl, rfl, rfl, by simp [World.putObj], fun _ hb => World.putObj_heap_other hb⟩⟩
theorem Upd.below {w w1 v : World} {r B : Nat} (h : Upd w w1 r) (hb : Below B v w) (hr : B ≤ r) : Below B v w1 :=
  ⟨h.os.trans hb.os, h.tape.trans hb.tape, h.output.trans hb.output, by rw [h.size]; exact hb.size, fun k hk => (h.block k (by omega)).trans (hb.block k hk)⟩
section
variable (w : World)
set_option maxRecDepth 100000 in
set_option maxHeartbeats 2000000 in
theorem findLabels_any (ls : List Ln) (ao : Option Addr) (cap : Nat) (hl : ls.length ≤ 16385) (hw : ∀ l ∈ ls, 0 ≤ l.words ∧ l.words ≤ 512) (hR : LRow w ao ls) : Calls Tryd.prog 8 #[.slice ao ls.length cap] w fun e w' => ∃ r, e = .returned (.map (some r)) ∧ Lb w' r (lbs ls ls.length) ∧ w.heap.size ≤ r ∧ Below w.heap.size w w' := by
  have hmm : ∀ W, (Instr.makeMap 30 none).run Tryd.prog W = .ok (.map (some W.heap.size)) (W.alloc (.map #[] 0)) := fun _ => rfl
  have HR := hide hR
  have HW := hide (ahd_bound hw)
  have HW1 := hide hw
  clear hR hw
  go_enter Tryd.func8, Tryd.ntmps8
  go_upto_region 4 with fail
  go_loopw [4, 12] (fun u v wr => ∃ k : Nat, u = .int .i64 (ahd ls k) ∧ v = .int .i64 (k : Int) ∧ k ≤ ls.length ∧ Lb wr w.heap.size (lbs ls k) ∧ Below w.heap.size w wr ∧ w.heap.size < wr.heap.size) (fun _ v _ => ls.length - (intOf v).toNat)
  case atStart => exact ⟨0, rfl, rfl, by omega, ⟨#[], 0, heap_alloc_last _ _, rfl⟩, bel1 _ _, by simp⟩
  case round =>
  obtain ⟨k, rfl, rfl, hk, hLb, hB, hsz⟩ := hrel
  by_cases hlt : k < ls.length
  · obtain ⟨a, rfl, ha⟩ := (HR.out.keep hB) k hlt
    have hd : (k : Int) < (ls.length : Int) := by omega
    have hb0 := HW.out k (by omega)
    have hwd := HW1.out ls[k] (List.getElem_mem hlt)
    have HA := hide ha
    have HS : Hid (ahd ls (k + 1) = ahd ls k + ls[k].words) := hide (ahd_step hlt)
    have HLs : Hid (lbs ls (k + 1) = if ls[k].label ≠ [] ∧ atK KS (lbs ls k) ls[k].label = none then lbs ls k ++ [(ls[k].label, (k, ahd ls k))] else lbs ls k) := hide (by
      rw [lbs, List.getElem?_eq_getElem hlt])
    have HLb := hide hLb
    have HB := hide hB
    clear ha hLb hB
    generalize ls[k] = L at *
    generalize ahd ls k = wd at *
    generalize lbs ls k = ps at *
    obtain ⟨wrong, label, ⟨op, ia, ib, imm⟩, name, words⟩ := L
    go_upto_region 6 with (refine loadT Tryd.underlying35 rfl [.bool wrong, .string ⟨label.toArray⟩, .int .i64 op, .int .i64 ia, .int .i64 ib, .int .i64 imm, .string ⟨name.toArray⟩, .int .i64 words] (by kernel_rfl) rfl _ rfl (a.add (k * 8)) rfl HA.out ?_)
    have HLb1 := hide (HLb.out.keep (bel1 wr (.cells #[.bool wrong, .string ⟨label.toArray⟩, .int .i64 op, .int .i64 ia, .int .i64 ib, .int .i64 imm, .string ⟨name.toArray⟩, .int .i64 words] 35)))
    have HB1 := hide (HB.out.alloc HB.out.size (.cells #[.bool wrong, .string ⟨label.toArray⟩, .int .i64 op, .int .i64 ia, .int .i64 ib, .int .i64 imm, .string ⟨name.toArray⟩, .int .i64 words] 35))
    have hG : LnAt (wr.alloc (.cells #[.bool wrong, .string ⟨label.toArray⟩, .int .i64 op, .int .i64 ia, .int .i64 ib, .int .i64 imm, .string ⟨name.toArray⟩, .int .i64 words] 35)) wr.heap.size ⟨wrong, label, ⟨op, ia, ib, imm⟩, name, words⟩ := heap_alloc_last _ _
    have hs1 : w.heap.size < (wr.alloc (.cells #[.bool wrong, .string ⟨label.toArray⟩, .int .i64 op, .int .i64 ia, .int .i64 ib, .int .i64 imm, .string ⟨name.toArray⟩, .int .i64 words] 35)).heap.size := by simp; omega
    generalize wr.alloc (.cells #[.bool wrong, .string ⟨label.toArray⟩, .int .i64 op, .int .i64 ia, .int .i64 ib, .int .i64 imm, .string ⟨name.toArray⟩, .int .i64 words] 35) = W at *
    generalize wr.heap.size = g at *
    obtain ⟨q0, q1, q2, q3, q4, q5, q6, q7⟩ := hG.cells
    have hgl := hG.lt
    have hlk := lookT HLb1.out label
    clear hG HA HB HLb
    have HV2 : Hid (wrap64 (wd + words) = wd + words) := hide (by
      have h1 : 0 ≤ words ∧ words ≤ 512 := hwd
      unfold wrap64; omega)
    by_cases h0 : label = []
    · subst h0
      have HLs2 : Hid (lbs ls (k + 1) = ps) := hide (by rw [HLs.out, if_neg (by simp)])
      cases hat : atK KS ps [] with
      | none =>
        rw [hat] at hlk
        simp only [Option.map_none, Option.getD_none, Option.isSome_none] at hlk
        clear hat HLs
        go_wp2
        refine ⟨⟨k + 1, by rw [HS.out, HV2.out], by simp, by omega, by rw [HLs2.out]; exact HLb1.out.keep (bel1 _ _), HB1.out.alloc HB1.out.size _, by simp; omega⟩, ?_⟩
        simp [intOf]
        omega
      | some m =>
        obtain ⟨m1, m2⟩ := m
        rw [hat] at hlk
        simp only [Option.map_some, Option.getD_some, Option.isSome_some, mkE] at hlk
        clear hat HLs
        go_wp2
        refine ⟨⟨k + 1, by rw [HS.out, HV2.out], by simp, by omega, by rw [HLs2.out]; exact HLb1.out.keep (bel1 _ _), HB1.out.alloc HB1.out.size _, by simp; omega⟩, ?_⟩
        simp [intOf]
        omega
    · have hne : List.isEmpty label = false := by simpa using h0
      cases hat : atK KS ps label with
      | some m =>
        have HLs2 : Hid (lbs ls (k + 1) = ps) := hide (by rw [HLs.out, if_neg (by rw [hat]; simp)])
        obtain ⟨m1, m2⟩ := m
        rw [hat] at hlk
        simp only [Option.map_some, Option.getD_some, Option.isSome_some, mkE] at hlk
        clear hat HLs h0
        go_wp2
        refine ⟨⟨k + 1, by rw [HS.out, HV2.out], by simp, by omega, by rw [HLs2.out]; exact HLb1.out.keep (bel1 _ _), HB1.out.alloc HB1.out.size _, by simp; omega⟩, ?_⟩
        simp [intOf]
        omega
      | none =>
        have HLs2 : Hid (lbs ls (k + 1) = ps ++ [(label, (k, wd))]) := hide (by rw [HLs.out, if_pos ⟨h0, hat⟩])
        rw [hat] at hlk
        simp only [Option.map_none, Option.getD_none, Option.isSome_none] at hlk
        obtain ⟨w9, hup, hLb9, hUp⟩ := lb_push (HLb1.out.keep (bel1 W (.cells #[.int .i64 0, .int .i64 0] 50))) label k wd hat
        have HB9 := hide (hUp.below (HB1.out.alloc HB1.out.size (.cells #[.int .i64 0, .int .i64 0] 50)) (Nat.le_refl _))
        have hs9 : w9.heap.size = W.heap.size + 1 := by rw [hUp.size]; simp
        have cw : w9.cell? ⟨g, 7, none⟩ = some (.int .i64 words) := by
          rw [World.cell?_of_block (a := ⟨g, 7, none⟩) (hUp.block g (by have := HB1.out.size; omega))]
          rw [(bel1 W _).cell (p := ⟨g, 7, none⟩) hgl]
          exact q7
        have HLb9 := hide hLb9
        clear hat HLs h0 hLb9 hUp
        go_wp2
        refine ⟨⟨k + 1, by rw [HS.out, HV2.out], by simp, by omega, by rw [HLs2.out]; exact HLb9.out, HB9.out, by omega⟩, ?_⟩
        simp [intOf]
        omega
  · obtain rfl : k = ls.length := by omega
    have HLb := hide hLb
    have HB := hide hB
    clear hLb hB
    go_wp2
    go_ret
    exact ⟨_, rfl, HLb.out, Nat.le_refl _, HB.out⟩
end
end Go.Proofs.YtbfagiofhakjnaaDoor

namespace Go.Proofs.YtbfagiofhakjnaaDoor
open Go.RowKit
/-- what imm is, as the document's own program counts it -/
def kr (n : Nat) : Nat := if kd n = 2 then 1 else if kd n = 1 then 2 else 0
def numB (z : Int) (k : Nat) : Bool := decide (lo k ≤ z) && decide (z ≤ hi k)
section
variable (w : World)
set_option maxHeartbeats 1000000 in
theorem shape_in (n : Nat) (hn : n < 27) : Calls Tryd.prog 27 #[.int .i64 (n : Int)] w fun e w' => e = .returned (.tuple #[.bool (uA n), .bool (uB n), .int .i64 (kr n : Nat)]) ∧ w' = w := by
  have h : n = 0 ∨ n = 1 ∨ n = 2 ∨ n = 3 ∨ n = 4 ∨ n = 5 ∨ n = 6 ∨ n = 7 ∨ n = 8 ∨ n = 9 ∨ n = 10 ∨ n = 11 ∨ n = 12 ∨ n = 13 ∨ n = 14 ∨ n = 15 ∨ n = 16 ∨ n = 17 ∨ n = 18 ∨ n = 19 ∨ n = 20 ∨ n = 21 ∨ n = 22 ∨ n = 23 ∨ n = 24 ∨ n = 25 ∨ n = 26 := by omega
  rcases h with rfl | rfl | rfl | rfl | rfl | rfl | rfl | rfl | rfl | rfl | rfl | rfl | rfl | rfl | rfl | rfl | rfl | rfl | rfl | rfl | rfl | rfl | rfl | rfl | rfl | rfl | rfl
  all_goals
    go_enter Tryd.func27, Tryd.ntmps27
    go_wp2
    go_ret3
    exact ⟨rfl, rfl⟩
theorem shape_out (n : Int) (hn : n < 0 ∨ 27 ≤ n) : Calls Tryd.prog 27 #[.int .i64 n] w fun e w' => e = .returned (.tuple #[.bool false, .bool false, .int .i64 0]) ∧ w' = w := by
  have h2 : ¬ n = 2 := by omega
  have h3 : ¬ n = 3 := by omega
  have h4 : ¬ n = 4 := by omega
  have h5 : ¬ n = 5 := by omega
  have h6 : ¬ n = 6 := by omega
  have h7 : ¬ n = 7 := by omega
  have h8 : ¬ n = 8 := by omega
  have h9 : ¬ n = 9 := by omega
  have h10 : ¬ n = 10 := by omega
  have h11 : ¬ n = 11 := by omega
  have h12 : ¬ n = 12 := by omega
  have h13 : ¬ n = 13 := by omega
  have h14 : ¬ n = 14 := by omega
  have h15 : ¬ n = 15 := by omega
  have h16 : ¬ n = 16 := by omega
  have h17 : ¬ n = 17 := by omega
  have h18 : ¬ n = 18 := by omega
  have h19 : ¬ n = 19 := by omega
  have h20 : ¬ n = 20 := by omega
  have h21 : ¬ n = 21 := by omega
  have h22 : ¬ n = 22 := by omega
  have h23 : ¬ n = 23 := by omega
  have h24 : ¬ n = 24 := by omega
  have h25 : ¬ n = 25 := by omega
  have h26 : ¬ n = 26 := by omega
  clear hn
  go_enter Tryd.func27, Tryd.ntmps27
  go_wp2
  go_ret3
  exact ⟨rfl, rfl⟩
theorem register_any (n : Int) (u : Bool) : Calls Tryd.prog 53 #[.int .i64 n, .bool u] w fun e w' => e = .returned (.bool (fitsB n u)) ∧ w' = w := by
  cases u
  · by_cases h : n = 0
    · subst h
      go_enter Tryd.func53, Tryd.ntmps53
      go_wp2
      go_ret
      exact ⟨rfl, rfl⟩
    · go_enter Tryd.func53, Tryd.ntmps53
      go_wp2
      go_ret
      exact ⟨by simp [fitsB], rfl⟩
  · by_cases h1 : 0 ≤ n
    · by_cases h2 : n ≤ 7
      · go_enter Tryd.func53, Tryd.ntmps53
        go_wp2
        go_ret
        exact ⟨by simp [fitsB]; omega, rfl⟩
      · go_enter Tryd.func53, Tryd.ntmps53
        go_wp2
        go_ret
        exact ⟨by simp [fitsB]; omega, rfl⟩
    · go_enter Tryd.func53, Tryd.ntmps53
      go_wp2
      go_ret
      exact ⟨by simp [fitsB]; omega, rfl⟩
theorem number_any (z : Int) (n : Nat) : Calls Tryd.prog 54 #[.int .i64 z, .int .i64 (kr n : Nat)] w fun e w' => e = .returned (.bool (numB z (kd n))) ∧ w' = w := by
  unfold kr
  rcases kd_le n with e | e | e <;> rw [e]
  · by_cases h : z = 0
    · subst h
      go_enter Tryd.func54, Tryd.ntmps54
      go_wp2
      go_ret
      exact ⟨rfl, rfl⟩
    · go_enter Tryd.func54, Tryd.ntmps54
      go_wp2
      go_ret
      exact ⟨by simp [numB, lo, hi]; first | omega | (intro; omega) | (rw [Bool.eq_iff_iff]; simp; omega), rfl⟩
  · by_cases h1 : 0 ≤ z
    · by_cases h2 : z ≤ 65535
      · go_enter Tryd.func54, Tryd.ntmps54
        go_wp2
        go_ret
        exact ⟨by simp [numB, lo, hi]; first | omega | (intro; omega) | (rw [Bool.eq_iff_iff]; simp; omega), rfl⟩
      · go_enter Tryd.func54, Tryd.ntmps54
        go_wp2
        go_ret
        exact ⟨by simp [numB, lo, hi]; first | omega | (intro; omega) | (rw [Bool.eq_iff_iff]; simp; omega), rfl⟩
    · go_enter Tryd.func54, Tryd.ntmps54
      go_wp2
      go_ret
      exact ⟨by simp [numB, lo, hi]; first | omega | (intro; omega) | (rw [Bool.eq_iff_iff]; simp; omega), rfl⟩
  · by_cases h1 : -32768 ≤ z
    · by_cases h2 : z ≤ 32767
      · go_enter Tryd.func54, Tryd.ntmps54
        go_wp2
        go_ret
        exact ⟨by simp [numB, lo, hi]; first | omega | (intro; omega) | (rw [Bool.eq_iff_iff]; simp; omega), rfl⟩
      · go_enter Tryd.func54, Tryd.ntmps54
        go_wp2
        go_ret
        exact ⟨by simp [numB, lo, hi]; first | omega | (intro; omega) | (rw [Bool.eq_iff_iff]; simp; omega), rfl⟩
    · have hq : numB z 2 = false := by simp [numB, lo]; omega
      rw [hq]
      go_enter Tryd.func54, Tryd.ntmps54
      go_wp2
      go_ret
      exact ⟨rfl, rfl⟩
end
end Go.Proofs.YtbfagiofhakjnaaDoor
