import Derived.Test.YtbfagiofhakjnaaDoorMA01
import Derived.Test.YtbfagiofhakjnaaDoorMA09
namespace Go.Proofs.YtbfagiofhakjnaaDoor
open Go.RowKit
section
variable (w : World)
set_option maxHeartbeats 1000000 in
theorem rfits_any (i : I) : Calls Tryd.prog 39 #[.agg i.cells.toArray] w fun e w' => e = .returned (.bool (isI i)) ∧ Below w.heap.size w w' := by
  obtain ⟨op, a, b, imm⟩ := i
  simp only [I.cells]
  by_cases h1 : 1 ≤ op
  · by_cases h2 : op < 27
    · obtain ⟨n, rfl⟩ := Int.eq_ofNat_of_zero_le (show 0 ≤ op by omega)
      have hn : n < 27 := by omega
      have HS : Hid (isI ⟨(n : Int), a, b, imm⟩ = (fitsB a (uA n) && fitsB b (uB n) && numB imm (kd n))) := by
        apply hide; simp [isI, h1, h2, numB, Bool.and_assoc]
      go_enter Tryd.func39, Tryd.ntmps39
      go_wp2_with fail
      refine (shape_in _ n hn).mono ?_
      rintro e w1 ⟨rfl, rfl⟩
      go_wp2_with fail
      refine (register_any _ a (uA n)).mono ?_
      rintro e w1 ⟨rfl, rfl⟩
      rcases hx : fitsB a (uA n) with _ | _
      · rw [hx] at HS
        go_wp2
        go_ret
        exact ⟨by rw [HS.out]; rfl, bel1 _ _⟩
      · rw [hx] at HS
        go_wp2_with fail
        refine (register_any _ b (uB n)).mono ?_
        rintro e w2 ⟨rfl, rfl⟩
        rcases hy : fitsB b (uB n) with _ | _
        · rw [hy] at HS
          go_wp2
          go_ret
          exact ⟨by rw [HS.out]; rfl, bel1 _ _⟩
        · rw [hy] at HS
          go_wp2_with fail
          refine (number_any _ imm n).mono ?_
          rintro e w2 ⟨rfl, rfl⟩
          go_wp2
          go_ret
          exact ⟨by rw [HS.out]; rfl, bel1 _ _⟩
    · have h3 : 26 < op := by omega
      have HS : Hid (isI ⟨op, a, b, imm⟩ = false) := by apply hide; simp [isI]; omega
      go_enter Tryd.func39, Tryd.ntmps39
      go_wp2
      go_ret
      exact ⟨by rw [HS.out]; rfl, bel1 _ _⟩
  · have HS : Hid (isI ⟨op, a, b, imm⟩ = false) := by apply hide; simp [isI]; omega
    go_enter Tryd.func39, Tryd.ntmps39
    go_wp2
    go_ret
    exact ⟨by rw [HS.out]; rfl, bel1 _ _⟩
end
end Go.Proofs.YtbfagiofhakjnaaDoor

namespace Go.Proofs.YtbfagiofhakjnaaDoor
open Go.RowKit
theorem wrap_u16 (n : Int) : IntKind.u16.wrap n = n % 65536 := by simp [IntKind.wrap, IntKind.bits, IntKind.signed]
theorem or_word (op a b imm : Int) (h1 : 1 ≤ op) (h2 : op < 27) (ha : 0 ≤ a ∧ a < 8) (hb : 0 ≤ b ∧ b < 8) :
    bits BinOp.or IntKind.u32 (bits BinOp.or IntKind.u32 (bits BinOp.or IntKind.u32 (op * 16777216) (a * 1048576)) (b * 65536)) (IntKind.u16.wrap imm % 4294967296) = op * 16777216 + a * 1048576 + b * 65536 + imm % 65536 := by
  have e1 := bits_join .u32 32 (by decide) wraps_u32 24 (op * 16777216) (a * 1048576) (by omega) (by omega) (by omega) (by omega) (by omega) (by omega)
  have e2 := bits_join .u32 32 (by decide) wraps_u32 20 (op * 16777216 + a * 1048576) (b * 65536) (by omega) (by omega) (by omega) (by omega) (by omega) (by omega)
  have e3 := bits_join .u32 32 (by decide) wraps_u32 16 (op * 16777216 + a * 1048576 + b * 65536) (imm % 65536 % 4294967296) (by omega) (by omega) (by omega) (by omega) (by omega) (by omega)
  rw [e1, e2, wrap_u16, e3]
  omega
theorem ret_word {x y : Int} (h : x = y) : Ending.returned (.tuple #[.int .u32 x, .int .i64 0]) = .returned (.tuple #[.int .u32 y, .int .i64 0]) := by rw [h]
section
variable (w : World)
set_option maxRecDepth 100000 in
set_option maxHeartbeats 1000000 in
theorem enc_no (i : I) (hx : isI i = false) (hO : Ops w) : Calls Tryd.prog 34 #[.agg i.cells.toArray] w fun e w' => e = .returned (.tuple #[.int .u32 0, .int .i64 70]) ∧ Below w.heap.size w w' := by
  obtain ⟨op, a, b, imm⟩ := i
  simp only [I.cells]
  go_enter Tryd.func34, Tryd.ntmps34
  go_wp2_with fail
  refine (isInstr_any _ ⟨op, a, b, imm⟩ (hO.below (bel1 _ _))).mono ?_
  rintro e w1 ⟨rfl, hb⟩
  have HB := hide ((bel1 w _).trans (hb.mono (by simp)))
  clear hb
  go_wp2
  go_ret2
  exact ⟨rfl, HB.out⟩
set_option maxRecDepth 100000 in
set_option maxHeartbeats 1000000 in
theorem enc_yes (i : I) (hx : isI i = true) (hO : Ops w) : Calls Tryd.prog 34 #[.agg i.cells.toArray] w fun e w' => e = .returned (.tuple #[.int .u32 (word i : Nat), .int .i64 0]) ∧ Below w.heap.size w w' := by
  have hI := isn.1 hx
  have ha := fitsB_range hI.a
  have hb' := fitsB_range hI.b
  have h1 := hI.op1
  have h2 := hI.op2
  have hm := hI.imm
  have HW : Hid (((word i : Nat) : Int) = i.op * 16777216 + i.a * 1048576 + i.b * 65536 + i.imm % 65536) := by apply hide; unfold word; omega
  have HX := hide hx
  clear hI
  obtain ⟨op, a, b, imm⟩ := i
  simp only [I.cells]
  simp only at ha hb' h1 h2 hm HW
  go_enter Tryd.func34, Tryd.ntmps34
  go_wp2_with fail
  refine (isInstr_any _ ⟨op, a, b, imm⟩ (hO.below (bel1 _ _))).mono ?_
  rintro e w1 ⟨rfl, hb⟩
  have HB := hide ((bel1 w _).trans (hb.mono (by simp)))
  obtain ⟨hc, hf⟩ := bcell hb
  clear hb hO
  go_wp2
  go_ret2
  exact ⟨ret_word (by rw [HW.out]; exact or_word op a b imm h1 h2 ha hb'), HB.out⟩
set_option maxRecDepth 100000 in
set_option maxHeartbeats 1000000 in
theorem renc_no (i : I) (hx : isI i = false) : Calls Tryd.prog 28 #[.agg i.cells.toArray] w fun e w' => e = .returned (.tuple #[.int .u32 0, .int .i64 70]) ∧ Below w.heap.size w w' := by
  obtain ⟨op, a, b, imm⟩ := i
  simp only [I.cells]
  go_enter Tryd.func28, Tryd.ntmps28
  go_wp2_with fail
  refine (rfits_any _ ⟨op, a, b, imm⟩).mono ?_
  rintro e w1 ⟨rfl, hb⟩
  have HB := hide ((bel1 w _).trans (hb.mono (by simp)))
  clear hb
  go_wp2
  go_ret2
  exact ⟨rfl, HB.out⟩
set_option maxRecDepth 100000 in
set_option maxHeartbeats 1000000 in
theorem renc_yes (i : I) (hx : isI i = true) : Calls Tryd.prog 28 #[.agg i.cells.toArray] w fun e w' => e = .returned (.tuple #[.int .u32 (word i : Nat), .int .i64 0]) ∧ Below w.heap.size w w' := by
  have hI := isn.1 hx
  have ha := fitsB_range hI.a
  have hb' := fitsB_range hI.b
  have h1 := hI.op1
  have h2 := hI.op2
  have hm := hI.imm
  have HW : Hid (((word i : Nat) : Int) = i.op * 16777216 + i.a * 1048576 + i.b * 65536 + i.imm % 65536) := by apply hide; unfold word; omega
  have HX := hide hx
  clear hI
  obtain ⟨op, a, b, imm⟩ := i
  simp only [I.cells]
  simp only at ha hb' h1 h2 hm HW
  by_cases hn : imm < 0
  · go_enter Tryd.func28, Tryd.ntmps28
    go_wp2_with fail
    refine (rfits_any _ ⟨op, a, b, imm⟩).mono ?_
    rintro e w1 ⟨rfl, hb⟩
    have HB := hide ((bel1 w _).trans (hb.mono (by simp)))
    obtain ⟨hc, hf⟩ := bcell hb
    clear hb
    go_wp2
    go_ret2
    exact ⟨ret_word (by rw [HW.out]; omega), HB.out⟩
  · go_enter Tryd.func28, Tryd.ntmps28
    go_wp2_with fail
    refine (rfits_any _ ⟨op, a, b, imm⟩).mono ?_
    rintro e w1 ⟨rfl, hb⟩
    have HB := hide ((bel1 w _).trans (hb.mono (by simp)))
    obtain ⟨hc, hf⟩ := bcell hb
    clear hb
    go_wp2
    go_ret2
    exact ⟨ret_word (by rw [HW.out]; omega), HB.out⟩
end
end Go.Proofs.YtbfagiofhakjnaaDoor

namespace Go.Proofs.YtbfagiofhakjnaaDoor
open Go.RowKit
/-- the fault of line k -/
def fltT (ps : List (Tx × (Nat × Int))) (l : Ln) (k : Nat) (ahead : Int) : Int :=
  if l.wrong then 71
  else if l.label ≠ [] ∧ ((atK KS ps l.label).getD (0, 0)).1 ≠ k then 72
  else if l.name ≠ [] ∧ atK KS ps l.name = none then 72
  else if 512 < ahead + l.words then 2 else 0
def relN (z : Int) : Bool := z == 21 || z == 22 || z == 23 || z == 25
/-- the number of an instruction's line -/
def immW (ps : List (Tx × (Nat × Int))) (l : Ln) (at' : Int) : Int :=
  if l.name = [] then l.i.imm
  else if relN l.i.op then ((atK KS ps l.name).getD (0, 0)).2 - (at' + 1) else ((atK KS ps l.name).getD (0, 0)).2
/-- a line's word -/
def wrdT (ps : List (Tx × (Nat × Int))) (l : Ln) (at' : Int) : Nat :=
  if l.i.op = 0 then (immW ps l at' % 4294967296).toNat else encW { l.i with imm := immW ps l at' }
theorem mark_val (o : Option (Nat × Int)) : (o.map mkE).getD (.agg #[.int .i64 0, .int .i64 0]) = .agg #[.int .i64 ((o.getD (0, 0)).1 : Nat), .int .i64 (o.getD (0, 0)).2] := by
  cases o <;> rfl
theorem fld0 (a b : Int) (W : World) : (Instr.field 50 (.agg #[.int .i64 a, .int .i64 b]) 0).run Tryd.prog W = .ok (.int .i64 a) W := by
  unfold Instr.field
  simp [run_underlying Tryd.underlying50, part, asAgg]
theorem fld1 (a b : Int) (W : World) : (Instr.field 50 (.agg #[.int .i64 a, .int .i64 b]) 1).run Tryd.prog W = .ok (.int .i64 b) W := by
  unfold Instr.field
  simp [run_underlying Tryd.underlying50, part, asAgg]
section
variable (w : World)
theorem isRel_any (z : Int) : Calls Tryd.prog 33 #[.int .i64 z] w fun e w' => e = .returned (.bool (relN z)) ∧ w' = w := by
  by_cases h1 : z = 21
  · subst h1
    go_enter Tryd.func33, Tryd.ntmps33
    go_wp2
    go_ret
    exact ⟨rfl, rfl⟩
  by_cases h2 : z = 22
  · subst h2
    go_enter Tryd.func33, Tryd.ntmps33
    go_wp2
    go_ret
    exact ⟨rfl, rfl⟩
  by_cases h3 : z = 23
  · subst h3
    go_enter Tryd.func33, Tryd.ntmps33
    go_wp2
    go_ret
    exact ⟨rfl, rfl⟩
  by_cases h4 : z = 25
  · subst h4
    go_enter Tryd.func33, Tryd.ntmps33
    go_wp2
    go_ret
    exact ⟨rfl, rfl⟩
  · have HV : Hid (relN z = false) := hide (by simp [relN, h1, h2, h3, h4])
    have e1 : (z == 21) = false := by simpa using h1
    have e2 : (z == 22) = false := by simpa using h2
    have e3 : (z == 23) = false := by simpa using h3
    have e4 : (z == 25) = false := by simpa using h4
    clear h1 h2 h3 h4
    go_enter Tryd.func33, Tryd.ntmps33
    go_wp2
    go_ret
    exact ⟨by rw [HV.out]; rfl, rfl⟩
set_option maxRecDepth 100000 in
set_option maxHeartbeats 2000000 in
theorem fault_any (ps : List (Tx × (Nat × Int))) (l : Ln) (k : Nat) (ah : Int) (r : Nat) (ha : 0 ≤ ah) (ha2 : ah ≤ 512) (hw : 0 ≤ l.words) (hw2 : l.words ≤ 512) (hL : Lb w r ps) : Calls Tryd.prog 9 #[.agg (lnC l), .int .i64 (k : Int), .int .i64 ah, .map (some r)] w fun e w' => e = .returned (.int .i64 (fltT ps l k ah)) ∧ Below w.heap.size w w' := by
  obtain ⟨wrong, label, ⟨op, ia, ib, imm⟩, name, words⟩ := l
  simp only [lnC] at *
  have hf0 := fld0
  have hL1 := hL.keep (bel1 w (.cells #[.bool wrong, .string ⟨label.toArray⟩, .int .i64 op, .int .i64 ia, .int .i64 ib, .int .i64 imm, .string ⟨name.toArray⟩, .int .i64 words] 35))
  have k1 := lookF hL1 label
  have k2 := lookT hL1 name
  rw [mark_val] at k1 k2
  have HB := hide (bel1 w (.cells #[.bool wrong, .string ⟨label.toArray⟩, .int .i64 op, .int .i64 ia, .int .i64 ib, .int .i64 imm, .string ⟨name.toArray⟩, .int .i64 words] 35))
  have HV : Hid (fltT ps ⟨wrong, label, ⟨op, ia, ib, imm⟩, name, words⟩ k ah = if wrong then 71 else if label ≠ [] ∧ ((atK KS ps label).getD (0, 0)).1 ≠ k then 72 else if name ≠ [] ∧ atK KS ps name = none then 72 else if 512 < ah + words then 2 else 0) := hide rfl
  clear hL hL1
  cases wrong with
  | true =>
    have HV2 : Hid (fltT ps ⟨true, label, ⟨op, ia, ib, imm⟩, name, words⟩ k ah = 71) := hide (by rw [HV.out]; rfl)
    clear HV k1 k2
    go_enter Tryd.func9, Tryd.ntmps9
    go_wp2
    go_ret
    exact ⟨by rw [HV2.out]; rfl, HB.out⟩
  | false =>
    simp only [Bool.false_eq_true, if_false] at HV
    generalize (atK KS ps label).getD (0, 0) = ml at *
    generalize (atK KS ps name).getD (0, 0) = mn at *
    by_cases hc : label ≠ [] ∧ ml.1 ≠ k
    · have HV2 : Hid (fltT ps ⟨false, label, ⟨op, ia, ib, imm⟩, name, words⟩ k ah = 72) := hide (by rw [HV.out, if_pos hc])
      have h1 : List.isEmpty label = false := by simpa using hc.1
      have h2 : ((ml.1 : Int) != (k : Int)) = true := by have := hc.2; simp; omega
      clear HV hc k2
      go_enter Tryd.func9, Tryd.ntmps9
      go_wp2
      go_ret
      exact ⟨by rw [HV2.out]; rfl, HB.out⟩
    · rw [if_neg hc] at HV
      have hq : List.isEmpty label = true ∨ (List.isEmpty label = false ∧ ((ml.1 : Int) != (k : Int)) = false) := by
        by_cases e : label = []
        · left; simpa using e
        · right
          refine ⟨by simpa using e, ?_⟩
          have : ml.1 = k := Classical.byContradiction fun h => hc ⟨e, h⟩
          simp [this]
      clear hc
      by_cases hd : name ≠ [] ∧ atK KS ps name = none
      · have HV2 : Hid (fltT ps ⟨false, label, ⟨op, ia, ib, imm⟩, name, words⟩ k ah = 72) := hide (by rw [HV.out, if_pos hd])
        have h3 : List.isEmpty name = false := by simpa using hd.1
        rw [hd.2] at k2
        simp only [Option.isSome_none] at k2
        clear HV hd
        rcases hq with h1 | ⟨h1, h2⟩
        · go_enter Tryd.func9, Tryd.ntmps9
          go_wp2
          go_ret
          exact ⟨by rw [HV2.out]; rfl, HB.out.alloc HB.out.size _⟩
        · go_enter Tryd.func9, Tryd.ntmps9
          go_wp2
          go_ret
          exact ⟨by rw [HV2.out]; rfl, HB.out.alloc HB.out.size _⟩
      · rw [if_neg hd] at HV
        have hq2 : List.isEmpty name = true ∨ (List.isEmpty name = false ∧ (atK KS ps name).isSome = true) := by
          by_cases e : name = []
          · left; simpa using e
          · right
            refine ⟨by simpa using e, ?_⟩
            cases hh : atK KS ps name with
            | some _ => rfl
            | none => exact absurd ⟨e, hh⟩ hd
        clear hd
        generalize (atK KS ps name).isSome = bs at *
        by_cases hs : 512 < ah + words
        · have HV2 : Hid (fltT ps ⟨false, label, ⟨op, ia, ib, imm⟩, name, words⟩ k ah = 2) := hide (by rw [HV.out, if_pos hs])
          clear HV
          rcases hq with h1 | ⟨h1, h2⟩ <;> rcases hq2 with h3 | ⟨h3, rfl⟩
          all_goals
            go_enter Tryd.func9, Tryd.ntmps9
            go_wp2
            go_ret
            exact ⟨by rw [HV2.out]; rfl, HB.out.alloc HB.out.size _⟩
        · have HV2 : Hid (fltT ps ⟨false, label, ⟨op, ia, ib, imm⟩, name, words⟩ k ah = 0) := hide (by rw [HV.out, if_neg hs])
          clear HV
          rcases hq with h1 | ⟨h1, h2⟩ <;> rcases hq2 with h3 | ⟨h3, rfl⟩
          all_goals
            go_enter Tryd.func9, Tryd.ntmps9
            go_wp2
            go_ret
            exact ⟨by rw [HV2.out]; rfl, HB.out.alloc HB.out.size _⟩
end
end Go.Proofs.YtbfagiofhakjnaaDoor
