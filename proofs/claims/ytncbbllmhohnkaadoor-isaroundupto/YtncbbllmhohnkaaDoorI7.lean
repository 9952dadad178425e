import Derived.Test.YtncbbllmhohnkaaDoorI5
namespace Go.Proofs.YtncbbllmhohnkaaDoor
open Go.RowKit
theorem wrap_u16 (n : Int) : IntKind.u16.wrap n = n % 65536 := by simp [IntKind.wrap, IntKind.bits, IntKind.signed]
theorem or_word (op a b imm : Int) (h1 : 1 ≤ op) (h2 : op < 27) (ha : 0 ≤ a ∧ a < 8) (hb : 0 ≤ b ∧ b < 8) :
    bits BinOp.or IntKind.u32 (bits BinOp.or IntKind.u32 (bits BinOp.or IntKind.u32 (op * 16777216) (a * 1048576)) (b * 65536)) (IntKind.u16.wrap imm % 4294967296) = op * 16777216 + a * 1048576 + b * 65536 + imm % 65536 := by
  have e1 := bits_join .u32 32 (by decide) wraps_u32 24 (op * 16777216) (a * 1048576) (by omega) (by omega) (by omega) (by omega) (by omega) (by omega)
  have e2 := bits_join .u32 32 (by decide) wraps_u32 20 (op * 16777216 + a * 1048576) (b * 65536) (by omega) (by omega) (by omega) (by omega) (by omega) (by omega)
  have e3 := bits_join .u32 32 (by decide) wraps_u32 16 (op * 16777216 + a * 1048576 + b * 65536) (imm % 65536 % 4294967296) (by omega) (by omega) (by omega) (by omega) (by omega) (by omega)
  rw [e1, e2, wrap_u16, e3]
  omega
theorem ret_word {x y : Int} (h : x = y) : Ending.returned (.tuple #[.int .u32 x, .int .i64 0]) = .returned (.tuple #[.int .u32 y, .int .i64 0]) := by rw [h]
section
variable (w : World)
set_option maxRecDepth 100000 in
set_option maxHeartbeats 1000000 in
theorem enc_no (i : I) (hx : isI i = false) (hO : Ops w) : Calls Tryd.prog 30 #[.agg i.cells.toArray] w fun e w' => e = .returned (.tuple #[.int .u32 0, .int .i64 70]) ∧ Below w.heap.size w w' := by
  obtain ⟨op, a, b, imm⟩ := i
  simp only [I.cells]
  go_enter Tryd.func30, Tryd.ntmps30
  go_wp2_with fail
  refine (isInstr_any _ ⟨op, a, b, imm⟩ (hO.below (bel1 _ _))).mono ?_
  rintro e w1 ⟨rfl, hb⟩
  have HB := hide ((bel1 w _).trans (hb.mono (by simp)))
  clear hb
  go_wp2
  go_ret2
  exact ⟨rfl, HB.out⟩
set_option maxRecDepth 100000 in
set_option maxHeartbeats 1000000 in
theorem enc_yes (i : I) (hx : isI i = true) (hO : Ops w) : Calls Tryd.prog 30 #[.agg i.cells.toArray] w fun e w' => e = .returned (.tuple #[.int .u32 (word i : Nat), .int .i64 0]) ∧ Below w.heap.size w w' := by
  have hI := isn.1 hx
  have ha := fitsB_range hI.a
  have hb' := fitsB_range hI.b
  have h1 := hI.op1
  have h2 := hI.op2
  have hm := hI.imm
  have HW : Hid (((word i : Nat) : Int) = i.op * 16777216 + i.a * 1048576 + i.b * 65536 + i.imm % 65536) := by apply hide; unfold word; omega
  have HX := hide hx
  clear hI
  obtain ⟨op, a, b, imm⟩ := i
  simp only [I.cells]
  simp only at ha hb' h1 h2 hm HW
  go_enter Tryd.func30, Tryd.ntmps30
  go_wp2_with fail
  refine (isInstr_any _ ⟨op, a, b, imm⟩ (hO.below (bel1 _ _))).mono ?_
  rintro e w1 ⟨rfl, hb⟩
  have HB := hide ((bel1 w _).trans (hb.mono (by simp)))
  obtain ⟨hc, hf⟩ := bcell hb
  clear hb hO
  go_wp2
  go_ret2
  exact ⟨ret_word (by rw [HW.out]; exact or_word op a b imm h1 h2 ha hb'), HB.out⟩
end
end Go.Proofs.YtncbbllmhohnkaaDoor
