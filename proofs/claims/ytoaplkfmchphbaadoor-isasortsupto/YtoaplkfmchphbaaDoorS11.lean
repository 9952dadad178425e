import Derived.MapKept
import Derived.Laws.Cover2
import Derived.RangeFuncRecord
import Derived.Test.YtoaplkfmchphbaaDoorS10
namespace Go.Proofs.YtoaplkfmchphbaaDoor
open Go.RowKit
theorem set8 {w v : World} {g B : Nat} (h : Below B w v) (hg : B ≤ g) (a0 a1 a2 a3 a4 a5 a6 a7 : Value) : Below B w ((((((((v.setCell ⟨g, 0, none⟩ a0).setCell ⟨g, 1, none⟩ a1).setCell ⟨g, 2, none⟩ a2).setCell ⟨g, 3, none⟩ a3).setCell ⟨g, 4, none⟩ a4).setCell ⟨g, 5, none⟩ a5).setCell ⟨g, 6, none⟩ a6).setCell ⟨g, 7, none⟩ a7) :=
  (((((((h.setCell hg _).setCell hg _).setCell hg _).setCell hg _).setCell hg _).setCell hg _).setCell hg _).setCell hg _
section
variable (w : World)
set_option maxRecDepth 100000 in
set_option maxHeartbeats 2000000 in
theorem readLine_any (s : Tx) (hs : s.length ≤ 16384) (hO : Ops w) : Calls Tryd.prog 39 #[.string ⟨s.toArray⟩] w fun e w' => e = .returned (.agg (lnC (lineT s))) ∧ Below w.heap.size w w' := by
  have HV : Hid (lineT s = match cutT [58] (trimT ((cutT [59] s).getD (s, [])).1) with | none => stT (trimT ((cutT [59] s).getD (s, [])).1) | some (a, b) => if isLbl a then { stT (trimT b) with label := a } else lnBad) := hide rfl
  have hcl := (cut_len [59] s).1
  have HC := hide (fun W => cutAt_any W [59] s (by decide) (by decide) hs)
  have HO := hide hO
  clear hO
  generalize ((cutT [59] s).getD (s, [])).1 = t1 at *
  generalize ((cutT [59] s).getD (s, [])).2 = t1b at *
  have htl := trimT_len t1
  have HT := hide (fun W => trim_any W t1 (by omega))
  generalize trimT t1 = t at *
  have hcl2 := cut_len [58] t
  have HC2 := hide (fun W => cutAt_any W [58] t (by decide) (by decide) (by omega))
  go_enter Tryd.func39, Tryd.ntmps39
  go_wp2_with fail
  refine (HC.out _).mono ?_
  rintro e w1 ⟨rfl, hb1⟩
  have hs1 := hb1.size
  simp only [World.size_alloc] at hs1
  have HB1 := hide ((bel1 w (.cells (lnC ln0) 60)).trans (hb1.mono (by simp)))
  have HR1 : Hid (LnAt w1 w.heap.size ln0) := hide (LnAt.keep (w := w.alloc (.cells (lnC ln0) 60)) (heap_alloc_last _ _) hb1)
  clear hb1 HC
  go_wp2_with fail
  refine (HT.out _).mono ?_
  rintro e w2 ⟨rfl, hb2⟩
  have HB2 := hide (HB1.out.trans (hb2.mono (by omega)))
  have HR2 := hide (HR1.out.keep hb2)
  have hs2 := hb2.size
  clear hb2 HT HB1 HR1
  go_wp2_with fail
  refine (HC2.out _).mono ?_
  rintro e w3 ⟨rfl, hb3⟩
  have HB3 := hide (HB2.out.trans (hb3.mono (by omega)))
  have HR3 := hide (HR2.out.keep hb3)
  have hs3 := hb3.size
  clear hb3 HC2 HB2 HR2
  cases hct : cutT [58] t with
  | none =>
    rw [hct] at HV
    have HL := hide (readSt_any w3 t (by omega) (HO.out.below HB3.out))
    clear hct
    simp only [Option.getD_none, Option.isSome_none] at *
    generalize stT t = L at *
    go_wp2_with fail
    refine HL.out.mono ?_
    rintro e w4 ⟨rfl, hb4⟩
    have HB4 := hide (HB3.out.trans (hb4.mono (by omega)))
    have hR4 := HR3.out.keep hb4
    have fr := fun j => hR4.frz j
    obtain ⟨r0, r1, r2, r3, r4, r5, r6, r7⟩ := hR4.cells
    have HS := hide (ln_sets hR4 L)
    clear hb4 hR4 HL HB3 HR3
    simp only [lnC]
    go_wp2
    refine bodyPost_ret (results_cell_row rfl _ _ w.heap.size 60 (lnC L) (0, 0) _ rfl HS.out Tryd.underlying60 rfl info_line) rfl ?_
    exact ⟨by rw [HV.out], set8 HB4.out (Nat.le_refl _) _ _ _ _ _ _ _ _⟩
  | some p =>
    obtain ⟨a, b⟩ := p
    rw [hct] at HV hcl2
    simp only [Option.getD_some] at hcl2
    have HLb := hide (isLabel_any w3 a (by omega))
    clear hct
    simp only [Option.getD_some, Option.isSome_some] at *
    cases hla : isLbl a with
    | false =>
      rw [hla] at HLb
      have HV2 : Hid (lineT s = lnBad) := hide (by rw [HV.out]; simp [hla])
      clear hla HV
      go_wp2_with fail
      refine HLb.out.mono ?_
      rintro e w4 ⟨rfl, hb4⟩
      have HB4 := hide (HB3.out.trans (hb4.mono (by omega)))
      have hR4 := HR3.out.keep hb4
      have fr := fun j => hR4.frz j
      obtain ⟨r0, r1, r2, r3, r4, r5, r6, r7⟩ := hR4.cells
      have HS := hide (ln_sets hR4 lnBad)
      clear hb4 hR4 HLb HB3 HR3
      go_wp2
      refine bodyPost_ret (results_cell_row rfl _ _ w.heap.size 60 (lnC lnBad) (0, 0) _ rfl HS.out Tryd.underlying60 rfl info_line) rfl ?_
      exact ⟨by rw [HV2.out], set8 HB4.out (Nat.le_refl _) _ _ _ _ _ _ _ _⟩
    | true =>
      rw [hla] at HLb
      have HV2 : Hid (lineT s = { stT (trimT b) with label := a }) := hide (by rw [HV.out]; simp [hla])
      have htb := trimT_len b
      clear hla HV
      go_wp2_with fail
      refine HLb.out.mono ?_
      rintro e w4 ⟨rfl, hb4⟩
      have HB4 := hide (HB3.out.trans (hb4.mono (by omega)))
      have HR4 := hide (HR3.out.keep hb4)
      have hs4 := hb4.size
      clear hb4 HLb HB3 HR3
      go_wp2_with fail
      refine (trim_any _ b (by omega)).mono ?_
      rintro e w5 ⟨rfl, hb5⟩
      have HB5 := hide (HB4.out.trans (hb5.mono (by omega)))
      have HR5 := hide (HR4.out.keep hb5)
      have hs5 := hb5.size
      clear hb5 HB4 HR4
      have HL := hide (readSt_any w5 (trimT b) (by omega) (HO.out.below HB5.out))
      generalize stT (trimT b) = L at *
      go_wp2_with fail
      refine HL.out.mono ?_
      rintro e w6 ⟨rfl, hb6⟩
      have HB6 := hide (HB5.out.trans (hb6.mono (by omega)))
      have HR6 := hide (HR5.out.keep hb6)
      have hs6 := hb6.size
      clear hb6 HB5 HR5 HL
      simp only [lnC]
      go_upto_region 10 with fail
      have hG : LnAt (w6.alloc (.cells #[.bool L.wrong, .string ⟨a.toArray⟩, .int .i64 L.i.op, .int .i64 L.i.a, .int .i64 L.i.b, .int .i64 L.i.imm, .string ⟨L.name.toArray⟩, .int .i64 L.words] 60)) w6.heap.size { L with label := a } := heap_alloc_last _ _
      have hR7 := HR6.out.keep (bel1 w6 (.cells #[.bool L.wrong, .string ⟨a.toArray⟩, .int .i64 L.i.op, .int .i64 L.i.a, .int .i64 L.i.b, .int .i64 L.i.imm, .string ⟨L.name.toArray⟩, .int .i64 L.words] 60))
      have HB7 := hide (HB6.out.alloc HB6.out.size (.cells #[.bool L.wrong, .string ⟨a.toArray⟩, .int .i64 L.i.op, .int .i64 L.i.a, .int .i64 L.i.b, .int .i64 L.i.imm, .string ⟨L.name.toArray⟩, .int .i64 L.words] 60))
      generalize w6.alloc (.cells #[.bool L.wrong, .string ⟨a.toArray⟩, .int .i64 L.i.op, .int .i64 L.i.a, .int .i64 L.i.b, .int .i64 L.i.imm, .string ⟨L.name.toArray⟩, .int .i64 L.words] 60) = W7 at *
      generalize w6.heap.size = g7 at *
      obtain ⟨q0, q1, q2, q3, q4, q5, q6, q7⟩ := hG.cells
      have fr := fun j => hR7.frz j
      obtain ⟨r0, r1, r2, r3, r4, r5, r6, r7⟩ := hR7.cells
      have HS := hide (ln_sets hR7 { L with label := a })
      clear hG hR7 HR6 HB6
      go_wp2
      refine bodyPost_ret (results_cell_row rfl _ _ w.heap.size 60 (lnC { L with label := a }) (0, 0) _ rfl HS.out Tryd.underlying60 rfl info_line) rfl ?_
      exact ⟨by rw [HV2.out], set8 HB7.out (Nat.le_refl _) _ _ _ _ _ _ _ _⟩
end
end Go.Proofs.YtoaplkfmchphbaaDoor

namespace Go.Proofs.YtoaplkfmchphbaaDoor
open Go.RowKit
theorem info_ln : ∃ i, Tryd.prog.info? 60 = some i ∧ i.zero = some (.agg (lnC ln0)) ∧ i.size = 8 ∧ i.bytes = 80 := info_parts (by kernel_rfl)
def lnL (l : Ln) : List Value := [.bool l.wrong, .string ⟨l.label.toArray⟩, .int .i64 l.i.op, .int .i64 l.i.a, .int .i64 l.i.b, .int .i64 l.i.imm, .string ⟨l.name.toArray⟩, .int .i64 l.words]
/-- lines, one behind the other -/
def lns (ls : List Ln) : List Value := ls.flatMap lnL
theorem lns_snoc (ls : List Ln) (l : Ln) : lns (ls ++ [l]) = lns ls ++ lnL l := by simp [lns]
theorem lns_len (ls : List Ln) : (lns ls).length = ls.length * 8 := by
  induction ls with
  | nil => rfl
  | cons l r ih => simp only [lns, List.flatMap_cons, List.length_append, List.length_cons] at ih ⊢; rw [ih]; simp [lnL]; omega
theorem lns_at {ls : List Ln} {k : Nat} (hk : k < ls.length) {j : Nat} (hj : j < 8) : (lns ls)[k * 8 + j]? = (lnL ls[k])[j]? := by
  induction ls generalizing k with
  | nil => simp at hk
  | cons l r ih =>
    cases k with
    | zero =>
      simp only [lns, List.flatMap_cons, Nat.zero_mul, Nat.zero_add, List.getElem_cons_zero]
      rw [List.getElem?_append_left (by simpa [lnL] using hj)]
    | succ k =>
      simp only [lns, List.flatMap_cons, List.getElem_cons_succ]
      rw [List.getElem?_append_right (by simp [lnL]; omega)]
      have e : (k + 1) * 8 + j - (lnL l).length = k * 8 + j := by simp [lnL]; omega
      rw [e]
      exact ih (by simpa using hk)
theorem cells_new (w : World) (cs : List Value) (t : TypeId) : ∀ j u, cs[j]? = some u → (w.alloc (.cells cs.toArray t)).cell? ((⟨w.heap.size, 0, none⟩ : Addr).add j) = some u := by
  intro j u h
  rw [add0, World.cell?_alloc_new]
  simpa using h
theorem lnL_one (l : Ln) : ∀ u ∈ lnL l, u.oneCell' = true := by
  intro u hu
  simp [lnL] at hu
  rcases hu with rfl | rfl | rfl | rfl | rfl | rfl | rfl | rfl <;> rfl
section
variable (w : World)
set_option maxRecDepth 100000 in
set_option maxHeartbeats 2000000 in
theorem readLines_any (s : Tx) (hs : s.length ≤ 16384) (hO : Ops w) : Calls Tryd.prog 22 #[.string ⟨s.toArray⟩] w fun e w' => ∃ v, e = .returned v ∧ w'.ownsRow w.heap.size 60 8 v (splitT 10 s).length (lns ((splitT 10 s).map lineT)) ∧ Below w.heap.size w w' := by
  obtain ⟨i9, hi, hz, hsz, hb⟩ := info_ln
  have HO := hide hO
  clear hO
  go_enter Tryd.func22, Tryd.ntmps22
  go_wp2_with fail
  refine (cutAll_any _ s 10 (by decide) hs).mono ?_
  rintro e w1 ⟨v, rfl, hP, hb1⟩
  have hcnt := split_count 10 s
  have HPl : Hid (∀ p ∈ splitT 10 s, p.length ≤ 16384) := hide (fun p hp => by have := split_len 10 s p hp; omega)
  obtain ⟨ap, cp, rfl, hRow⟩ := Row.of (g := w.heap.size) hP (Nat.lt_succ_self _)
  have HRow := hide hRow
  have HB := hide hb1
  have hs1 := hb1.size
  clear hRow hP hb1
  generalize hps : splitT 10 s = ps at *
  have HPs := hide hps
  clear hps
  go_upto_region 3 with fail
  go_loopw [3, 9] (fun v u wr => ∃ j : Nat, u = .int .i64 (j : Int) ∧ j ≤ ps.length ∧ wr.ownsRow w1.heap.size 60 8 v j (lns ((ps.take j).map lineT)) ∧ Below w1.heap.size w1 wr) (fun _ u _ => ps.length - (intOf u).toNat)
  case atStart => exact ⟨0, rfl, by omega, ⟨rfl, .inl ⟨rfl, rfl⟩⟩, Below.refl _ _⟩
  case round =>
  obtain ⟨j, rfl, hj, hOw, hBw⟩ := hrel
  obtain ⟨au, cu, rfl⟩ := own_shape hOw
  have HOw := hide hOw
  have HBw := hide hBw
  have hsw := hBw.size
  by_cases hlt : j < ps.length
  · obtain ⟨a, rfl, hab, ca⟩ := HRow.out j (by simpa [strs] using hlt)
    have ea : (strs ps)[j]'(by simpa [strs] using hlt) = .string ⟨ps[j].toArray⟩ := by simp [strs]
    rw [ea] at ca
    have cw : wr.cell? (a.add j) = some (.string ⟨ps[j].toArray⟩) := by rw [hBw.cell (cell_blk ca)]; exact ca
    have HE : Hid (lns ((ps.take (j + 1)).map lineT) = lns ((ps.take j).map lineT) ++ lnL (lineT ps[j])) := hide (by rw [List.take_succ_eq_append_getElem hlt, List.map_append, ← lns_snoc]; rfl)
    have hpl := HPl.out ps[j] (List.getElem_mem hlt)
    have HL := hide (readLine_any wr ps[j] hpl ((HO.out.below HB.out).below HBw.out))
    have hd : (j : Int) < (ps.length : Int) := by omega
    clear hOw hBw ea ca
    generalize ps[j] = p at *
    generalize lineT p = L at *
    go_wp2_with fail
    refine HL.out.mono ?_
    rintro e w2 ⟨rfl, hb2⟩
    have HO2 := hide (own_keep HOw.out hb2)
    have HB2 := hide (HBw.out.trans (hb2.mono hsw))
    have hs2 := hb2.size
    clear hb2 HOw HBw HL cw
    simp only [lnC]
    go_upto_region 6 with (at_builtin; refine wpList_append_own _ rfl _ _ 53 rfl w1.heap.size 60 i9 (.agg (lnC ln0)) 8 80 Tryd.underlying53 hi hz hsz hb rfl (by decide) _ _ _ rfl (HO2.out.alloc _) ⟨_, 0, none⟩ 1 1 (lnL L) rfl rfl (cells_new _ _ _) (lnL_one L) (by unfold maxLen; omega) (by omega) (by simp; omega) ?_; intro v3 w3 ho3 hg3 _; obtain ⟨a3, c3, rfl⟩ := own_shape ho3)
    have HO3 : Hid (w3.ownsRow w1.heap.size 60 8 (.slice a3 (j + 1) c3) (j + 1) (lns ((ps.take (j + 1)).map lineT))) := hide (by rw [HE.out]; exact ho3)
    have HB3 := hide ((HB2.out.alloc (by omega) _).grown hg3 (by simp; omega) (fun k hk => (HO2.out.lt k hk).1))
    clear ho3 hg3 HO2 HB2
    go_wp2
    refine ⟨⟨j + 1, by simp, by omega, HO3.out, HB3.out⟩, ?_⟩
    simp [intOf]
    omega
  · obtain rfl : j = ps.length := by omega
    rw [List.take_length] at hOw
    have HO2 := hide hOw
    clear hOw hBw HOw
    go_wp2
    go_ret
    exact ⟨_, rfl, by rw [HPs.out]; exact own_mono HO2.out hs1, HB.out.trans (HBw.out.mono hs1)⟩
end
end Go.Proofs.YtoaplkfmchphbaaDoor

namespace Go.Proofs.YtoaplkfmchphbaaDoor
open Go.RowKit
/-- the keys of a map: their type, how they lie, when two are one -/
structure Cod (α : Type) where
  t : TypeId
  enc : α → Value
  eqb : α → α → Bool
/-- block r is a map with these pairs, in this order -/
def MapIs {α β : Type} (w : World) (r : Nat) (K : Cod α) (E : β → Value) (ps : List (α × β)) : Prop :=
  ∃ (es : Array MapEntry) (clock : Nat), w.heap[r]? = some (.map es clock) ∧ es.toList.map (fun e => (e.key, e.val)) = ps.map (fun p => (K.enc p.1, E p.2))
/-- what a key's type must do -/
structure KeyOk {α : Type} (K : Cod α) : Prop where
  same : ∀ a b, K.eqb a b = true ↔ a = b
  check : ∀ (em : Bool) (a : α) (w : World), (Instr.checkKey em 10000 K.t (K.enc a)).run Tryd.prog w = .ok () w
  find : ∀ (a : α) (es : List MapEntry) (ks : List α) (w : World), es.map (·.key) = ks.map K.enc →
    (Instr.findKey K.t (K.enc a) es).run Tryd.prog w = .ok ((ks.findIdx? (K.eqb a)).map (fun i => (i, ((es[i]?).map (·.val)).getD undef))) w
def KS : Cod Tx := ⟨9, fun s => .string ⟨s.toArray⟩, fun a b => a == b⟩
theorem findNow_str (a : Tx) : ∀ (es : List MapEntry) (ks : List Tx) (i : Nat), es.map (·.key) = ks.map (fun a => Value.string ⟨a.toArray⟩) →
    Instr.findNow .string (.string ⟨a.toArray⟩) es i = some ((ks.findIdx? (fun k => a == k)).map (fun j => (i + j, ((es[j]?).map (·.val)).getD undef)))
  | [], [], i, _ => rfl
  | [], _ :: _, _, h => by simp at h
  | _ :: _, [], _, h => by simp at h
  | e :: es, k :: ks, i, h => by
    simp only [List.map_cons, List.cons.injEq] at h
    obtain ⟨h1, h2⟩ := h
    rw [Instr.findNow, h1]
    simp only [Instr.sameNow]
    have hq : ((⟨a.toArray⟩ : ByteArray) == (⟨k.toArray⟩ : ByteArray)) = (a == k) := by
      rw [beq_toListBytes, Lib.toList_data, Lib.toList_data]
    cases hk : (a == k) with
    | true => simp [List.findIdx?_cons, hk, hq]
    | false =>
      simp only [hq, hk]
      rw [findNow_str a es ks (i + 1) h2, List.findIdx?_cons, hk]
      simp only [Bool.false_eq_true, if_false, Option.map_map]
      congr 1
      congr 1
      funext j
      simp [Nat.add_assoc, Nat.add_comm 1 j]
theorem key_str : KeyOk KS := by
  refine ⟨fun a b => by simp [KS], fun em a w => ?_, fun a es ks w h => ?_⟩
  · show (Instr.checkKey em (9999 + 1) 9 (.string ⟨a.toArray⟩)).run Tryd.prog w = _
    unfold Instr.checkKey
    simp [run_underlying Tryd.underlying9]
  · have := findNow_str a es ks 0 h
    simp only [Nat.zero_add] at this
    simp only [Instr.findKey, KS, Sem.run_bind, run_underlying Tryd.underlying9, Result.andThen_ok, this]
    rfl
section
variable {α β : Type} {K : Cod α} {E : β → Value} {w : World} {r : Nat} {ps : List (α × β)}
/-- the element at a -/
def atK (K : Cod α) (ps : List (α × β)) (a : α) : Option β := (ps.find? (fun p => K.eqb a p.1)).map Prod.snd
theorem keys_of {l : List MapEntry} (h : l.map (fun e => (e.key, e.val)) = ps.map (fun p => (K.enc p.1, E p.2))) : l.map (·.key) = (ps.map Prod.fst).map K.enc := by
  have := congrArg (List.map Prod.fst) h
  rw [List.map_map, List.map_map] at this
  rw [List.map_map]
  exact this
theorem findIdx_at (a : α) : ∀ (ps : List (α × β)) (l : List MapEntry), l.map (fun e => (e.key, e.val)) = ps.map (fun p => (K.enc p.1, E p.2)) →
    ((ps.map Prod.fst).findIdx? (K.eqb a)).map (fun i => ((l[i]?).map (·.val)).getD undef) = (atK K ps a).map E
  | [], [], _ => rfl
  | [], _ :: _, h => by simp at h
  | _ :: _, [], h => by simp at h
  | p :: t, e :: l, h => by
    simp only [List.map_cons, List.cons.injEq, Prod.mk.injEq] at h
    obtain ⟨⟨h1, h2⟩, h3⟩ := h
    have ih := findIdx_at a t l h3
    unfold atK at ih ⊢
    rw [List.map_cons, List.findIdx?_cons, List.find?_cons]
    cases hp : K.eqb a p.1 with
    | true => simp [h2]
    | false =>
      simp only [Bool.false_eq_true, if_false, Option.map_map]
      rw [Option.map_map] at ih
      rw [← ih]
      congr 1
theorem run_look (hK : KeyOk K) {mt et : TypeId} {z : Value} (hm : Tryd.prog.underlying mt = some (.map K.t et)) (hz : ∀ w, (zeroValue et).run Tryd.prog w = .ok z w) (h : MapIs w r K E ps) (a : α) :
    (Instr.lookup mt (.map (some r)) (K.enc a) true).run Tryd.prog w = .ok (.tuple #[((atK K ps a).map E).getD z, .bool (atK K ps a).isSome]) w := by
  obtain ⟨es, clock, hb, hes⟩ := h
  have hf := hK.find a es.toList (ps.map Prod.fst) w (keys_of hes)
  have hi := findIdx_at (K := K) (E := E) a ps es.toList hes
  have hg : (getObj r).run Tryd.prog w = .ok (.map es clock) w := MapKept.run_getObj_map hb
  cases hx : (ps.map Prod.fst).findIdx? (K.eqb a) with
  | none =>
    rw [hx] at hf hi
    have hn : atK K ps a = none := by cases hq : atK K ps a with
      | none => rfl
      | some b => rw [hq] at hi; cases hi
    simp [Instr.lookup, run_underlying hm, hg, hK.check, hf, hz, hn]
  | some i =>
    rw [hx] at hf hi
    simp only [Option.map_some] at hf hi
    cases hq : atK K ps a with
    | none => rw [hq] at hi; cases hi
    | some b =>
      rw [hq] at hi
      simp only [Option.map_some, Option.some.injEq] at hi
      rw [hi] at hf
      simp [Instr.lookup, run_underlying hm, hg, hK.check, hf]
theorem find_none (hK : KeyOk K) {a : α} (hn : atK K ps a = none) {l : List MapEntry} (hes : l.map (fun e => (e.key, e.val)) = ps.map (fun p => (K.enc p.1, E p.2))) (w : World) : (Instr.findKey K.t (K.enc a) l).run Tryd.prog w = .ok none w := by
  have hf := hK.find a l (ps.map Prod.fst) w (keys_of hes)
  have hi := findIdx_at (K := K) (E := E) a ps l hes
  rw [hn] at hi
  cases hx : (ps.map Prod.fst).findIdx? (K.eqb a) with
  | none => rw [hx] at hf; exact hf
  | some i => rw [hx] at hi; cases hi
/-- a store at a new key -/
theorem run_push (hK : KeyOk K) {mt et : TypeId} (hm : Tryd.prog.underlying mt = some (.map K.t et)) (h : MapIs w r K E ps) (a : α) (b : β) (hn : atK K ps a = none) :
    ∃ es clock, (Instr.mapUpdate mt (.map (some r)) (K.enc a) (E b)).run Tryd.prog w = .ok () (w.putObj r (.map es clock)) ∧ MapIs (w.putObj r (.map es clock)) r K E (ps ++ [(a, b)]) := by
  obtain ⟨es, clock, hb, hes⟩ := h
  have hg : (getObj r).run Tryd.prog w = .ok (.map es clock) w := MapKept.run_getObj_map hb
  have hf := find_none (E := E) hK hn hes w
  refine ⟨es.push { key := K.enc a, val := E b, born := clock }, clock + 1, ?_, es.push { key := K.enc a, val := E b, born := clock }, clock + 1, World.putObj_heap_same (Array.getElem?_eq_some_iff.1 hb).1, ?_⟩
  · have hs := fun o => MapKept.run_setObj_map (P := Tryd.prog) o hb
    simp [Instr.mapUpdate, run_underlying hm, hg, hK.check, hf, hs, World.putObj]
  · simp [hes]
theorem run_look1 (hK : KeyOk K) {mt et : TypeId} {z : Value} (hm : Tryd.prog.underlying mt = some (.map K.t et)) (hz : ∀ w, (zeroValue et).run Tryd.prog w = .ok z w) (h : MapIs w r K E ps) (a : α) :
    (Instr.lookup mt (.map (some r)) (K.enc a) false).run Tryd.prog w = .ok (((atK K ps a).map E).getD z) w := by
  obtain ⟨es, clock, hb, hes⟩ := h
  have hf := hK.find a es.toList (ps.map Prod.fst) w (keys_of hes)
  have hi := findIdx_at (K := K) (E := E) a ps es.toList hes
  have hg : (getObj r).run Tryd.prog w = .ok (.map es clock) w := MapKept.run_getObj_map hb
  cases hx : (ps.map Prod.fst).findIdx? (K.eqb a) with
  | none =>
    rw [hx] at hf hi
    have hn : atK K ps a = none := by cases hq : atK K ps a with
      | none => rfl
      | some b => rw [hq] at hi; cases hi
    simp [Instr.lookup, run_underlying hm, hg, hK.check, hf, hz, hn]
  | some i =>
    rw [hx] at hf hi
    simp only [Option.map_some] at hf hi
    cases hq : atK K ps a with
    | none => rw [hq] at hi; cases hi
    | some b =>
      rw [hq] at hi
      simp only [Option.map_some, Option.some.injEq] at hi
      rw [hi] at hf
      simp [Instr.lookup, run_underlying hm, hg, hK.check, hf]
end
/-- a mark: its line, the words ahead of it -/
def mkE (m : Nat × Int) : Value := .agg #[.int .i64 (m.1 : Nat), .int .i64 m.2]
/-- the labels of lines: each with its first line -/
def Lb (w : World) (r : Nat) (ps : List (Tx × (Nat × Int))) : Prop := MapIs w r KS mkE ps
theorem Lb.keep {w w' : World} {r : Nat} {ps : List (Tx × (Nat × Int))} (h : Lb w r ps) (hb : Below w.heap.size w w') : Lb w' r ps := by
  obtain ⟨es, c, h1, h2⟩ := h
  exact ⟨es, c, by rw [hb.block r (Array.getElem?_eq_some_iff.1 h1).1]; exact h1, h2⟩
theorem lookT {w : World} {r : Nat} {ps : List (Tx × (Nat × Int))} (h : Lb w r ps) (a : Tx) : (Instr.lookup 55 (.map (some r)) (.string ⟨a.toArray⟩) true).run Tryd.prog w = .ok (.tuple #[((atK KS ps a).map mkE).getD (.agg #[.int .i64 0, .int .i64 0]), .bool (atK KS ps a).isSome]) w :=
  run_look key_str Tryd.underlying55 Tryd.zeroValue87 h a
theorem lookF {w : World} {r : Nat} {ps : List (Tx × (Nat × Int))} (h : Lb w r ps) (a : Tx) : (Instr.lookup 55 (.map (some r)) (.string ⟨a.toArray⟩) false).run Tryd.prog w = .ok (((atK KS ps a).map mkE).getD (.agg #[.int .i64 0, .int .i64 0])) w :=
  run_look1 key_str Tryd.underlying55 Tryd.zeroValue87 h a
end Go.Proofs.YtoaplkfmchphbaaDoor
