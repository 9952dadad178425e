/-
  The proof of 'Rows.DiskEditsUptoSaid': the walk is 'edits_walk'; the frame is the page's on statements of the second form.
-/
import Derived.Test.YtemkmjeioghofaaU1
import Derived.Test.YtemkmjeioghofaaE3
import Derived.ShutString
import Derived.ChangeOld
import Derived.Below
import Derived.JoinedCond
namespace Go.Proofs.Ytemkmjeioghofaa
namespace diskEdits
open Go.ChangeShapes Go.WideShapes Go.ChangeAt Go.RowKit Go.Deep
set_option linter.unusedVariables false

theorem own : ownKnob Try.prog.godebug = none := by kernel_rfl
theorem laidOut : laidOutB Try.prog = true := by kernel_rfl

set_option maxRecDepth 100000 in
theorem contract (H : Type) (enc : TypeId × Value → H) (W : World) (base : Nat) (args : Array Value) (ds gs : List (DataW H)) (before : List MemPlace)
    (hval : ∀ (j : Nat) t v, Try.f4.params[j]? = some t → args[j]? = some v → Value.okWide Try.prog W .any base t v)
    (hW : DataW.Whole enc Try.prog Try.f4.params.toList Rows.diskEditsSpec.vars false W args.toList ds gs before) (hk : Rows.uptoSmall H (ds ++ gs) = true) :
    Calls Try.prog 4 args W fun e W' => ∃ v, e = .returned v ∧ Rows.diskEditsSpec.post enc Try.prog Try.f4 false true false false W args v W' := by
  have hW' := hW
  obtain ⟨p, q, hA0, hV, rfl, hfz, hnd⟩ := hW
  have hA : DataW.TrodAll enc Try.prog W 0 (fun _ => true) true Try.f4.params.toList args.toList ds p := hA0
  rw [Try.params4] at hA hval
  obtain ⟨v0, vs0, d0, ds0, p0, q0, hargs, rfl, rfl, h0, r0⟩ := trodAll_cons hA
  obtain ⟨rfl, rfl, rfl⟩ := trodAll_nil r0
  obtain rfl : args = #[v0] := by cases args; simp_all
  obtain ⟨rfl, rfl⟩ := trodVars_none hV
  have hbk : Rows.uptoBulkAll ([d0] ++ []) ≤ 1048576 := of_decide_eq_true hk
  simp only [List.append_nil, Rows.uptoBulkAll] at hbk
  obtain ⟨cs, rfl, hsz⟩ := okWide_struct Try.underlying46 (hval 0 46 v0 rfl rfl)
  rw [show Try.prog.cellsOf 46 = 5 by kernel_rfl] at hsz
  have k0 := h0
  have lt0 : ∀ x ∈ p0, x.block < W.heap.size := by obtain ⟨m, hm⟩ := k0; exact DataW.trod_lt m _ _ _ hm
  obtain ⟨a, ln, cp, O, ps, pb, at', dv, zs, hcs, hln, hO, hpb, hrd, hby, hzl⟩ : ∃ (a : Option Addr) (ln cp : Nat) (O : Nat → Opr) (ps : Int) (pb : Nat) (at' : Int) (dv : Value) (zs : List Nat), cs = #[.slice a ln cp, .int .i64 ps, .int .u8 (pb : Int), .int .i64 at', dv] ∧ ln ≤ 1048576 ∧ IsOps W a ln O ∧ pb < 256 ∧ Rd W dv zs ∧ (∀ z ∈ zs, z < 256) ∧ zs.length ≤ 1048576 := by
    obtain ⟨fuel, hf⟩ := h0
    obtain ⟨a, ln, cp, O, ps, pb, at', dv, zs, hcs, r⟩ := open_touch (by show Rows.uptoBulk d0 ≤ _; omega) hf (by simp [Value.cells, hsz])
    refine ⟨a, ln, cp, O, ps, pb, at', dv, zs, ?_, r⟩
    have h9 : cs.toList = _ := hcs
    rw [← Array.toArray_toList (xs := cs), h9]
  subst hcs
  clear hA0
  refine (edits_walk a ln cp O ps pb at' dv zs W hln hO hpb hrd hby hzl).mono fun e W' ⟨he, bel⟩ => ?_
  subst he
  exact ⟨_, rfl, _, _, _, [], _, [], hW', trodAll_mk1 (shut_bool Try.underlying4 _), (trodAll_cons_mk (Below.trod laidOut (by kernel_rfl) (of_decide_eq_true (by kernel_rfl)) k0 bel lt0) trodAll_mk0), rfl, bel.frame _, fun h => by cases h⟩

set_option maxRecDepth 100000 in
theorem lifted (os : Os) (started : os.Started) (H : Type) (enc : TypeId × Value → H) (F : Stop.Interp) :
    ReturnsInHanded {} Try.checked os 4 .any ((Rows.OpenSpec.upto Rows.diskEditsSpec).pre6 enc Try.prog Try.f4 Rows.diskEditsUptoRow.domain false) (((Rows.OpenSpec.upto Rows.diskEditsSpec).at F).post enc Try.prog Try.f4 false true false false) := by
  refine returnsInHanded_of_cond (C := Try.checked) (s := Rows.OpenSpec.upto Rows.diskEditsSpec) (k := Rows.uptoSmall) rfl own started (by kernel_rfl) Try.func4
    (OpenSpec.witness (enc := enc) (C := Try.checked) (s := Rows.OpenSpec.upto Rows.diskEditsSpec) (k := Rows.uptoSmall) rfl false ⟨#[], #[.agg #[.slice none 0 0, .int .i64 0, .int .u8 0, .int .i64 0, .slice none 0 0]], []⟩ 8 (by kernel_rfl) (by kernel_rfl) (by kernel_rfl)
      (x := ([.agg [.nil, .agg [.lit (.int .i64 0), .lit (.int .u8 0)], .lit (.int .i64 0), .nil]], [], [])) (by kernel_rfl) rfl (by kernel_rfl)) ?_
  intro W base args ds gs before hval hW _ hk _
  exact contract H enc W base args ds gs before hval hW hk

theorem over : Rows.diskEditsUptoRow.holds Try.pinned (Rows.OpenSpec.upto Rows.diskEditsSpec) :=
  OpenClaim.holds_of_cond 4 Try.f4 rfl rfl rfl rfl rfl rfl rfl ⟨rfl, rfl, rfl, rfl, rfl⟩ rfl rfl rfl rfl rfl (by kernel_rfl) Try.func4 (by kernel_rfl)
    (of_decide_eq_true (by kernel_rfl)) (by unfold Func.isWrapper; first | (rw [if_pos (by decide +kernel)]; kernel_rfl) | (rw [if_neg (by decide +kernel)]; exact ⟨rfl, rfl⟩))
    (fun os started H enc _ F => lifted os started H enc F)

end diskEdits
theorem diskEdits_holds : Rows.DiskEditsUptoSaid := diskEdits.over
#print axioms diskEdits_holds
end Go.Proofs.Ytemkmjeioghofaa
