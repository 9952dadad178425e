import Derived.Test.YtoaplkfmchphbaaDoorS01
import Derived.Test.YtoaplkfmchphbaaDoorS11
namespace Go.Proofs.YtoaplkfmchphbaaDoor
open Go.RowKit
/-- the labels of the first k lines -/
def lbs (ls : List Ln) : Nat → List (Tx × (Nat × Int))
  | 0 => []
  | k + 1 => match ls[k]? with
    | none => lbs ls k
    | some l => if l.label ≠ [] ∧ atK KS (lbs ls k) l.label = none then lbs ls k ++ [(l.label, (k, ahd ls k))] else lbs ls k
theorem ahd_step {ls : List Ln} {k : Nat} (h : k < ls.length) : ahd ls (k + 1) = ahd ls k + ls[k].words := by
  unfold ahd
  rw [List.take_succ_eq_append_getElem h, List.map_append, List.sum_append]
  simp
theorem ahd_bound {ls : List Ln} (hw : ∀ l ∈ ls, 0 ≤ l.words ∧ l.words ≤ 512) : ∀ k, k ≤ ls.length → 0 ≤ ahd ls k ∧ ahd ls k ≤ 512 * k
  | 0, _ => by simp [ahd]
  | k + 1, h => by
    have ih := ahd_bound hw k (by omega)
    have h2 := hw ls[k] (List.getElem_mem h)
    rw [ahd_step h]
    omega
/-- lines that lie in a row -/
def LRow (W : World) (ao : Option Addr) (ls : List Ln) : Prop := ∀ k (h : k < ls.length), ∃ a : Addr, ao = some a ∧ ∀ j v, (lnL ls[k])[j]? = some v → W.cell? ((a.add (k * 8)).add j) = some v
theorem LRow.keep {W W' : World} {ao : Option Addr} {ls : List Ln} (h : LRow W ao ls) (hb : Below W.heap.size W W') : LRow W' ao ls := fun k hk => by
  obtain ⟨a, h1, h2⟩ := h k hk
  exact ⟨a, h1, fun j v hv => by rw [hb.cell (cell_blk (h2 j v hv))]; exact h2 j v hv⟩
theorem LRow.of {W : World} {base n : Nat} {e : TypeId} {v : Value} {ls : List Ln} (h : W.ownsRow base e 8 v n (lns ls)) : n = ls.length ∧ ∃ ao c, v = .slice ao n c ∧ LRow W ao ls := by
  have hl := h.1
  rw [lns_len] at hl
  refine ⟨by omega, ?_⟩
  rcases h.2 with ⟨h1, h2⟩ | ⟨g, cap, cur, h1, h2, h3, _, _, _, h7⟩
  · exact ⟨none, 0, by rw [h1, h2], fun j hj => by omega⟩
  · refine ⟨_, _, h1, fun k hk => ⟨_, rfl, fun j v hv => ?_⟩⟩
    have hj : j < 8 := by
      have := (List.getElem?_eq_some_iff.1 hv).1
      simpa [lnL] using this
    rw [add0, Lib.add_plain, Lib.cell_of_heap h3]
    have e : (cur.toList.take (n * 8))[k * 8 + j]? = some v := by rw [h7, lns_at hk hj]; exact hv
    rw [List.getElem?_take] at e
    split at e
    · rw [← Array.getElem?_toList]; exact e
    · simp at e
/-- w1 is w but for the block r -/
structure Upd (w w1 : World) (r : Nat) : Prop where
  os : w1.os = w.os
  tape : w1.tape = w.tape
  output : w1.output = w.output
  size : w1.heap.size = w.heap.size
  block : ∀ b, b ≠ r → w1.heap[b]? = w.heap[b]?
theorem lb_push {w : World} {r : Nat} {ps : List (Tx × (Nat × Int))} (h : Lb w r ps) (a : Tx) (k : Nat) (z : Int) (hn : atK KS ps a = none) :
    ∃ w1, (Instr.mapUpdate 55 (.map (some r)) (.string ⟨a.toArray⟩) (.agg #[.int .i64 (k : Nat), .int .i64 z])).run Tryd.prog w = .ok () w1 ∧ Lb w1 r (ps ++ [(a, (k, z))]) ∧ Upd w w1 r := by
  obtain ⟨es, c, h1, h2⟩ := run_push key_str Tryd.underlying55 h a (k, z) hn
  exact ⟨_, h1, h2, ⟨rfl, rfl, rfl, by simp [World.putObj], fun _ hb => World.putObj_heap_other hb⟩⟩
theorem Upd.below {w w1 v : World} {r B : Nat} (h : Upd w w1 r) (hb : Below B v w) (hr : B ≤ r) : Below B v w1 :=
  ⟨h.os.trans hb.os, h.tape.trans hb.tape, h.output.trans hb.output, by rw [h.size]; exact hb.size, fun k hk => (h.block k (by omega)).trans (hb.block k hk)⟩
section
variable (w : World)
set_option maxRecDepth 100000 in
set_option maxHeartbeats 2000000 in
theorem findLabels_any (ls : List Ln) (ao : Option Addr) (cap : Nat) (hl : ls.length ≤ 16385) (hw : ∀ l ∈ ls, 0 ≤ l.words ∧ l.words ≤ 512) (hR : LRow w ao ls) : Calls Tryd.prog 23 #[.slice ao ls.length cap] w fun e w' => ∃ r, e = .returned (.map (some r)) ∧ Lb w' r (lbs ls ls.length) ∧ w.heap.size ≤ r ∧ Below w.heap.size w w' := by
  have hmm : ∀ W, (Instr.makeMap 55 none).run Tryd.prog W = .ok (.map (some W.heap.size)) (W.alloc (.map #[] 0)) := fun _ => rfl
  have HR := hide hR
  have HW := hide (ahd_bound hw)
  have HW1 := hide hw
  clear hR hw
  go_enter Tryd.func23, Tryd.ntmps23
  go_upto_region 4 with fail
  go_loopw [4, 12] (fun u v wr => ∃ k : Nat, u = .int .i64 (ahd ls k) ∧ v = .int .i64 (k : Int) ∧ k ≤ ls.length ∧ Lb wr w.heap.size (lbs ls k) ∧ Below w.heap.size w wr ∧ w.heap.size < wr.heap.size) (fun _ v _ => ls.length - (intOf v).toNat)
  case atStart => exact ⟨0, rfl, rfl, by omega, ⟨#[], 0, heap_alloc_last _ _, rfl⟩, bel1 _ _, by simp⟩
  case round =>
  obtain ⟨k, rfl, rfl, hk, hLb, hB, hsz⟩ := hrel
  by_cases hlt : k < ls.length
  · obtain ⟨a, rfl, ha⟩ := (HR.out.keep hB) k hlt
    have hd : (k : Int) < (ls.length : Int) := by omega
    have hb0 := HW.out k (by omega)
    have hwd := HW1.out ls[k] (List.getElem_mem hlt)
    have HA := hide ha
    have HS : Hid (ahd ls (k + 1) = ahd ls k + ls[k].words) := hide (ahd_step hlt)
    have HLs : Hid (lbs ls (k + 1) = if ls[k].label ≠ [] ∧ atK KS (lbs ls k) ls[k].label = none then lbs ls k ++ [(ls[k].label, (k, ahd ls k))] else lbs ls k) := hide (by
      rw [lbs, List.getElem?_eq_getElem hlt])
    have HLb := hide hLb
    have HB := hide hB
    clear ha hLb hB
    generalize ls[k] = L at *
    generalize ahd ls k = wd at *
    generalize lbs ls k = ps at *
    obtain ⟨wrong, label, ⟨op, ia, ib, imm⟩, name, words⟩ := L
    go_upto_region 6 with (refine loadT Tryd.underlying60 rfl [.bool wrong, .string ⟨label.toArray⟩, .int .i64 op, .int .i64 ia, .int .i64 ib, .int .i64 imm, .string ⟨name.toArray⟩, .int .i64 words] (by kernel_rfl) rfl _ rfl (a.add (k * 8)) rfl HA.out ?_)
    have HLb1 := hide (HLb.out.keep (bel1 wr (.cells #[.bool wrong, .string ⟨label.toArray⟩, .int .i64 op, .int .i64 ia, .int .i64 ib, .int .i64 imm, .string ⟨name.toArray⟩, .int .i64 words] 60)))
    have HB1 := hide (HB.out.alloc HB.out.size (.cells #[.bool wrong, .string ⟨label.toArray⟩, .int .i64 op, .int .i64 ia, .int .i64 ib, .int .i64 imm, .string ⟨name.toArray⟩, .int .i64 words] 60))
    have hG : LnAt (wr.alloc (.cells #[.bool wrong, .string ⟨label.toArray⟩, .int .i64 op, .int .i64 ia, .int .i64 ib, .int .i64 imm, .string ⟨name.toArray⟩, .int .i64 words] 60)) wr.heap.size ⟨wrong, label, ⟨op, ia, ib, imm⟩, name, words⟩ := heap_alloc_last _ _
    have hs1 : w.heap.size < (wr.alloc (.cells #[.bool wrong, .string ⟨label.toArray⟩, .int .i64 op, .int .i64 ia, .int .i64 ib, .int .i64 imm, .string ⟨name.toArray⟩, .int .i64 words] 60)).heap.size := by simp; omega
    generalize wr.alloc (.cells #[.bool wrong, .string ⟨label.toArray⟩, .int .i64 op, .int .i64 ia, .int .i64 ib, .int .i64 imm, .string ⟨name.toArray⟩, .int .i64 words] 60) = W at *
    generalize wr.heap.size = g at *
    obtain ⟨q0, q1, q2, q3, q4, q5, q6, q7⟩ := hG.cells
    have hgl := hG.lt
    have hlk := lookT HLb1.out label
    clear hG HA HB HLb
    have HV2 : Hid (wrap64 (wd + words) = wd + words) := hide (by
      have h1 : 0 ≤ words ∧ words ≤ 512 := hwd
      unfold wrap64; omega)
    by_cases h0 : label = []
    · subst h0
      have HLs2 : Hid (lbs ls (k + 1) = ps) := hide (by rw [HLs.out, if_neg (by simp)])
      cases hat : atK KS ps [] with
      | none =>
        rw [hat] at hlk
        simp only [Option.map_none, Option.getD_none, Option.isSome_none] at hlk
        clear hat HLs
        go_wp2
        refine ⟨⟨k + 1, by rw [HS.out, HV2.out], by simp, by omega, by rw [HLs2.out]; exact HLb1.out.keep (bel1 _ _), HB1.out.alloc HB1.out.size _, by simp; omega⟩, ?_⟩
        simp [intOf]
        omega
      | some m =>
        obtain ⟨m1, m2⟩ := m
        rw [hat] at hlk
        simp only [Option.map_some, Option.getD_some, Option.isSome_some, mkE] at hlk
        clear hat HLs
        go_wp2
        refine ⟨⟨k + 1, by rw [HS.out, HV2.out], by simp, by omega, by rw [HLs2.out]; exact HLb1.out.keep (bel1 _ _), HB1.out.alloc HB1.out.size _, by simp; omega⟩, ?_⟩
        simp [intOf]
        omega
    · have hne : List.isEmpty label = false := by simpa using h0
      cases hat : atK KS ps label with
      | some m =>
        have HLs2 : Hid (lbs ls (k + 1) = ps) := hide (by rw [HLs.out, if_neg (by rw [hat]; simp)])
        obtain ⟨m1, m2⟩ := m
        rw [hat] at hlk
        simp only [Option.map_some, Option.getD_some, Option.isSome_some, mkE] at hlk
        clear hat HLs h0
        go_wp2
        refine ⟨⟨k + 1, by rw [HS.out, HV2.out], by simp, by omega, by rw [HLs2.out]; exact HLb1.out.keep (bel1 _ _), HB1.out.alloc HB1.out.size _, by simp; omega⟩, ?_⟩
        simp [intOf]
        omega
      | none =>
        have HLs2 : Hid (lbs ls (k + 1) = ps ++ [(label, (k, wd))]) := hide (by rw [HLs.out, if_pos ⟨h0, hat⟩])
        rw [hat] at hlk
        simp only [Option.map_none, Option.getD_none, Option.isSome_none] at hlk
        obtain ⟨w9, hup, hLb9, hUp⟩ := lb_push (HLb1.out.keep (bel1 W (.cells #[.int .i64 0, .int .i64 0] 87))) label k wd hat
        have HB9 := hide (hUp.below (HB1.out.alloc HB1.out.size (.cells #[.int .i64 0, .int .i64 0] 87)) (Nat.le_refl _))
        have hs9 : w9.heap.size = W.heap.size + 1 := by rw [hUp.size]; simp
        have cw : w9.cell? ⟨g, 7, none⟩ = some (.int .i64 words) := by
          rw [World.cell?_of_block (a := ⟨g, 7, none⟩) (hUp.block g (by have := HB1.out.size; omega))]
          rw [(bel1 W _).cell (p := ⟨g, 7, none⟩) hgl]
          exact q7
        have HLb9 := hide hLb9
        clear hat HLs h0 hLb9 hUp
        go_wp2
        refine ⟨⟨k + 1, by rw [HS.out, HV2.out], by simp, by omega, by rw [HLs2.out]; exact HLb9.out, HB9.out, by omega⟩, ?_⟩
        simp [intOf]
        omega
  · obtain rfl : k = ls.length := by omega
    have HLb := hide hLb
    have HB := hide hB
    clear hLb hB
    go_wp2
    go_ret
    exact ⟨_, rfl, HLb.out, Nat.le_refl _, HB.out⟩
end
end Go.Proofs.YtoaplkfmchphbaaDoor

namespace Go.Proofs.YtoaplkfmchphbaaDoor
open Go.RowKit
theorem wrap_u16 (n : Int) : IntKind.u16.wrap n = n % 65536 := by simp [IntKind.wrap, IntKind.bits, IntKind.signed]
theorem or_word (op a b imm : Int) (h1 : 1 ≤ op) (h2 : op < 27) (ha : 0 ≤ a ∧ a < 8) (hb : 0 ≤ b ∧ b < 8) :
    bits BinOp.or IntKind.u32 (bits BinOp.or IntKind.u32 (bits BinOp.or IntKind.u32 (op * 16777216) (a * 1048576)) (b * 65536)) (IntKind.u16.wrap imm % 4294967296) = op * 16777216 + a * 1048576 + b * 65536 + imm % 65536 := by
  have e1 := bits_join .u32 32 (by decide) wraps_u32 24 (op * 16777216) (a * 1048576) (by omega) (by omega) (by omega) (by omega) (by omega) (by omega)
  have e2 := bits_join .u32 32 (by decide) wraps_u32 20 (op * 16777216 + a * 1048576) (b * 65536) (by omega) (by omega) (by omega) (by omega) (by omega) (by omega)
  have e3 := bits_join .u32 32 (by decide) wraps_u32 16 (op * 16777216 + a * 1048576 + b * 65536) (imm % 65536 % 4294967296) (by omega) (by omega) (by omega) (by omega) (by omega) (by omega)
  rw [e1, e2, wrap_u16, e3]
  omega
theorem ret_word {x y : Int} (h : x = y) : Ending.returned (.tuple #[.int .u32 x, .int .i64 0]) = .returned (.tuple #[.int .u32 y, .int .i64 0]) := by rw [h]
section
variable (w : World)
set_option maxRecDepth 100000 in
set_option maxHeartbeats 1000000 in
theorem enc_no (i : I) (hx : isI i = false) (hO : Ops w) : Calls Tryd.prog 30 #[.agg i.cells.toArray] w fun e w' => e = .returned (.tuple #[.int .u32 0, .int .i64 70]) ∧ Below w.heap.size w w' := by
  obtain ⟨op, a, b, imm⟩ := i
  simp only [I.cells]
  go_enter Tryd.func30, Tryd.ntmps30
  go_wp2_with fail
  refine (isInstr_any _ ⟨op, a, b, imm⟩ (hO.below (bel1 _ _))).mono ?_
  rintro e w1 ⟨rfl, hb⟩
  have HB := hide ((bel1 w _).trans (hb.mono (by simp)))
  clear hb
  go_wp2
  go_ret2
  exact ⟨rfl, HB.out⟩
set_option maxRecDepth 100000 in
set_option maxHeartbeats 1000000 in
theorem enc_yes (i : I) (hx : isI i = true) (hO : Ops w) : Calls Tryd.prog 30 #[.agg i.cells.toArray] w fun e w' => e = .returned (.tuple #[.int .u32 (word i : Nat), .int .i64 0]) ∧ Below w.heap.size w w' := by
  have hI := isn.1 hx
  have ha := fitsB_range hI.a
  have hb' := fitsB_range hI.b
  have h1 := hI.op1
  have h2 := hI.op2
  have hm := hI.imm
  have HW : Hid (((word i : Nat) : Int) = i.op * 16777216 + i.a * 1048576 + i.b * 65536 + i.imm % 65536) := by apply hide; unfold word; omega
  have HX := hide hx
  clear hI
  obtain ⟨op, a, b, imm⟩ := i
  simp only [I.cells]
  simp only at ha hb' h1 h2 hm HW
  go_enter Tryd.func30, Tryd.ntmps30
  go_wp2_with fail
  refine (isInstr_any _ ⟨op, a, b, imm⟩ (hO.below (bel1 _ _))).mono ?_
  rintro e w1 ⟨rfl, hb⟩
  have HB := hide ((bel1 w _).trans (hb.mono (by simp)))
  obtain ⟨hc, hf⟩ := bcell hb
  clear hb hO
  go_wp2
  go_ret2
  exact ⟨ret_word (by rw [HW.out]; exact or_word op a b imm h1 h2 ha hb'), HB.out⟩
end
end Go.Proofs.YtoaplkfmchphbaaDoor

namespace Go.Proofs.YtoaplkfmchphbaaDoor
open Go.RowKit
/-- the fault of line k -/
def fltT (ps : List (Tx × (Nat × Int))) (l : Ln) (k : Nat) (ahead : Int) : Int :=
  if l.wrong then 71
  else if l.label ≠ [] ∧ ((atK KS ps l.label).getD (0, 0)).1 ≠ k then 72
  else if l.name ≠ [] ∧ atK KS ps l.name = none then 72
  else if 512 < ahead + l.words then 2 else 0
def relN (z : Int) : Bool := z == 21 || z == 22 || z == 23 || z == 25
/-- the number of an instruction's line -/
def immW (ps : List (Tx × (Nat × Int))) (l : Ln) (at' : Int) : Int :=
  if l.name = [] then l.i.imm
  else if relN l.i.op then ((atK KS ps l.name).getD (0, 0)).2 - (at' + 1) else ((atK KS ps l.name).getD (0, 0)).2
/-- a line's word -/
def wrdT (ps : List (Tx × (Nat × Int))) (l : Ln) (at' : Int) : Nat :=
  if l.i.op = 0 then (immW ps l at' % 4294967296).toNat else encW { l.i with imm := immW ps l at' }
theorem mark_val (o : Option (Nat × Int)) : (o.map mkE).getD (.agg #[.int .i64 0, .int .i64 0]) = .agg #[.int .i64 ((o.getD (0, 0)).1 : Nat), .int .i64 (o.getD (0, 0)).2] := by
  cases o <;> rfl
theorem fld0 (a b : Int) (W : World) : (Instr.field 87 (.agg #[.int .i64 a, .int .i64 b]) 0).run Tryd.prog W = .ok (.int .i64 a) W := by
  unfold Instr.field
  simp [run_underlying Tryd.underlying87, part, asAgg]
theorem fld1 (a b : Int) (W : World) : (Instr.field 87 (.agg #[.int .i64 a, .int .i64 b]) 1).run Tryd.prog W = .ok (.int .i64 b) W := by
  unfold Instr.field
  simp [run_underlying Tryd.underlying87, part, asAgg]
section
variable (w : World)
theorem isRel_any (z : Int) : Calls Tryd.prog 57 #[.int .i64 z] w fun e w' => e = .returned (.bool (relN z)) ∧ w' = w := by
  by_cases h1 : z = 21
  · subst h1
    go_enter Tryd.func57, Tryd.ntmps57
    go_wp2
    go_ret
    exact ⟨rfl, rfl⟩
  by_cases h2 : z = 22
  · subst h2
    go_enter Tryd.func57, Tryd.ntmps57
    go_wp2
    go_ret
    exact ⟨rfl, rfl⟩
  by_cases h3 : z = 23
  · subst h3
    go_enter Tryd.func57, Tryd.ntmps57
    go_wp2
    go_ret
    exact ⟨rfl, rfl⟩
  by_cases h4 : z = 25
  · subst h4
    go_enter Tryd.func57, Tryd.ntmps57
    go_wp2
    go_ret
    exact ⟨rfl, rfl⟩
  · have HV : Hid (relN z = false) := hide (by simp [relN, h1, h2, h3, h4])
    have e1 : (z == 21) = false := by simpa using h1
    have e2 : (z == 22) = false := by simpa using h2
    have e3 : (z == 23) = false := by simpa using h3
    have e4 : (z == 25) = false := by simpa using h4
    clear h1 h2 h3 h4
    go_enter Tryd.func57, Tryd.ntmps57
    go_wp2
    go_ret
    exact ⟨by rw [HV.out]; rfl, rfl⟩
set_option maxRecDepth 100000 in
set_option maxHeartbeats 2000000 in
theorem fault_any (ps : List (Tx × (Nat × Int))) (l : Ln) (k : Nat) (ah : Int) (r : Nat) (ha : 0 ≤ ah) (ha2 : ah ≤ 512) (hw : 0 ≤ l.words) (hw2 : l.words ≤ 512) (hL : Lb w r ps) : Calls Tryd.prog 24 #[.agg (lnC l), .int .i64 (k : Int), .int .i64 ah, .map (some r)] w fun e w' => e = .returned (.int .i64 (fltT ps l k ah)) ∧ Below w.heap.size w w' := by
  obtain ⟨wrong, label, ⟨op, ia, ib, imm⟩, name, words⟩ := l
  simp only [lnC] at *
  have hf0 := fld0
  have hL1 := hL.keep (bel1 w (.cells #[.bool wrong, .string ⟨label.toArray⟩, .int .i64 op, .int .i64 ia, .int .i64 ib, .int .i64 imm, .string ⟨name.toArray⟩, .int .i64 words] 60))
  have k1 := lookF hL1 label
  have k2 := lookT hL1 name
  rw [mark_val] at k1 k2
  have HB := hide (bel1 w (.cells #[.bool wrong, .string ⟨label.toArray⟩, .int .i64 op, .int .i64 ia, .int .i64 ib, .int .i64 imm, .string ⟨name.toArray⟩, .int .i64 words] 60))
  have HV : Hid (fltT ps ⟨wrong, label, ⟨op, ia, ib, imm⟩, name, words⟩ k ah = if wrong then 71 else if label ≠ [] ∧ ((atK KS ps label).getD (0, 0)).1 ≠ k then 72 else if name ≠ [] ∧ atK KS ps name = none then 72 else if 512 < ah + words then 2 else 0) := hide rfl
  clear hL hL1
  cases wrong with
  | true =>
    have HV2 : Hid (fltT ps ⟨true, label, ⟨op, ia, ib, imm⟩, name, words⟩ k ah = 71) := hide (by rw [HV.out]; rfl)
    clear HV k1 k2
    go_enter Tryd.func24, Tryd.ntmps24
    go_wp2
    go_ret
    exact ⟨by rw [HV2.out]; rfl, HB.out⟩
  | false =>
    simp only [Bool.false_eq_true, if_false] at HV
    generalize (atK KS ps label).getD (0, 0) = ml at *
    generalize (atK KS ps name).getD (0, 0) = mn at *
    by_cases hc : label ≠ [] ∧ ml.1 ≠ k
    · have HV2 : Hid (fltT ps ⟨false, label, ⟨op, ia, ib, imm⟩, name, words⟩ k ah = 72) := hide (by rw [HV.out, if_pos hc])
      have h1 : List.isEmpty label = false := by simpa using hc.1
      have h2 : ((ml.1 : Int) != (k : Int)) = true := by have := hc.2; simp; omega
      clear HV hc k2
      go_enter Tryd.func24, Tryd.ntmps24
      go_wp2
      go_ret
      exact ⟨by rw [HV2.out]; rfl, HB.out⟩
    · rw [if_neg hc] at HV
      have hq : List.isEmpty label = true ∨ (List.isEmpty label = false ∧ ((ml.1 : Int) != (k : Int)) = false) := by
        by_cases e : label = []
        · left; simpa using e
        · right
          refine ⟨by simpa using e, ?_⟩
          have : ml.1 = k := Classical.byContradiction fun h => hc ⟨e, h⟩
          simp [this]
      clear hc
      by_cases hd : name ≠ [] ∧ atK KS ps name = none
      · have HV2 : Hid (fltT ps ⟨false, label, ⟨op, ia, ib, imm⟩, name, words⟩ k ah = 72) := hide (by rw [HV.out, if_pos hd])
        have h3 : List.isEmpty name = false := by simpa using hd.1
        rw [hd.2] at k2
        simp only [Option.isSome_none] at k2
        clear HV hd
        rcases hq with h1 | ⟨h1, h2⟩
        · go_enter Tryd.func24, Tryd.ntmps24
          go_wp2
          go_ret
          exact ⟨by rw [HV2.out]; rfl, HB.out.alloc HB.out.size _⟩
        · go_enter Tryd.func24, Tryd.ntmps24
          go_wp2
          go_ret
          exact ⟨by rw [HV2.out]; rfl, HB.out.alloc HB.out.size _⟩
      · rw [if_neg hd] at HV
        have hq2 : List.isEmpty name = true ∨ (List.isEmpty name = false ∧ (atK KS ps name).isSome = true) := by
          by_cases e : name = []
          · left; simpa using e
          · right
            refine ⟨by simpa using e, ?_⟩
            cases hh : atK KS ps name with
            | some _ => rfl
            | none => exact absurd ⟨e, hh⟩ hd
        clear hd
        generalize (atK KS ps name).isSome = bs at *
        by_cases hs : 512 < ah + words
        · have HV2 : Hid (fltT ps ⟨false, label, ⟨op, ia, ib, imm⟩, name, words⟩ k ah = 2) := hide (by rw [HV.out, if_pos hs])
          clear HV
          rcases hq with h1 | ⟨h1, h2⟩ <;> rcases hq2 with h3 | ⟨h3, rfl⟩
          all_goals
            go_enter Tryd.func24, Tryd.ntmps24
            go_wp2
            go_ret
            exact ⟨by rw [HV2.out]; rfl, HB.out.alloc HB.out.size _⟩
        · have HV2 : Hid (fltT ps ⟨false, label, ⟨op, ia, ib, imm⟩, name, words⟩ k ah = 0) := hide (by rw [HV.out, if_neg hs])
          clear HV
          rcases hq with h1 | ⟨h1, h2⟩ <;> rcases hq2 with h3 | ⟨h3, rfl⟩
          all_goals
            go_enter Tryd.func24, Tryd.ntmps24
            go_wp2
            go_ret
            exact ⟨by rw [HV2.out]; rfl, HB.out.alloc HB.out.size _⟩
end
end Go.Proofs.YtoaplkfmchphbaaDoor
