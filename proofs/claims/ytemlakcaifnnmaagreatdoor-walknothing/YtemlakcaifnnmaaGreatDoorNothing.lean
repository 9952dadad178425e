/-
  The proof of 'Rows.WalkNothingCardSaid': the walk is 'nothing_walk'; the frame is the guide's toy over a laid table.
-/
import Derived.Test.YtemlakcaifnnmaaGreatDoorCards
import Derived.Test.YtemlakcaifnnmaaGreatDoorTie
import Derived.ProofKit
import Derived.OpenShut
import Derived.Deep.DeepHandedRow
import Derived.Below
import Derived.Test.YtemlakcaifnnmaaGreatDoorN2
namespace Go.Proofs.YtemlakcaifnnmaaGreatDoor.walkNothing
open Go.ChangeShapes Go.WideShapes Go.ChangeAt Go.RowKit
set_option linter.unusedVariables false

def nms : List (List UInt8) := [[121, 105, 101, 108, 100], [101, 120, 105, 116], [97, 108, 108, 111, 99], [109, 97, 112], [117, 110, 109, 97, 112], [100, 101, 114, 105, 118, 101], [103, 114, 97, 110, 116], [100, 114, 111, 112], [114, 101, 118, 111, 107, 101], [115, 112, 97, 119, 110], [115, 116, 97, 114, 116], [110, 111, 116, 105, 102, 121], [119, 97, 105, 116], [107, 105, 108, 108], [101, 109, 105, 116], [105, 110, 102, 111], [114, 101, 97, 100], [119, 114, 105, 116, 101], [112, 114, 111, 116, 101, 99, 116], [109, 97, 112, 105, 110], [108, 101, 102, 116], [115, 116, 97, 116, 117, 115], [115, 101, 116, 114, 101, 103], [103, 101, 116, 114, 101, 103], [97, 115, 107], [], [], [], [], [], [], [], [99, 111, 117, 110, 116], [101, 110, 118], [99, 97, 112, 115], [109, 97, 112, 115], [112, 97, 103, 101], [99, 108, 101, 97, 110], [102, 114, 101, 101, 122, 101], [110, 101, 119], [115, 101, 116], [102, 105, 108, 108], [112, 108, 97, 99, 101], [99, 111, 112, 121], [115, 101, 108, 102], [110, 97, 116, 109, 97, 112, 105, 110], [99, 108, 97, 105, 109], [110, 97, 116, 114, 101, 97, 100], [110, 97, 116, 119, 114, 105, 116, 101], [102, 108, 117, 115, 104], [110, 97, 116, 108, 101, 102, 116]]
def nmB (n : Nat) : ByteArray := ⟨(nms.getD n []).toArray⟩
theorem own : ownKnob Tryz.prog.godebug = none := by kernel_rfl
theorem laidOut : laidOutB Tryz.prog = true := by kernel_rfl
set_option maxRecDepth 100000 in
theorem contract (H : Type) (enc : TypeId × Value → H) (W : World) (base : Nat) (args : Array Value) (ds gs : List (DataW H)) (before : List MemPlace)
    (hval : ∀ (j : Nat) t v, Tryz.f3.params[j]? = some t → args[j]? = some v → Value.okWide Tryz.prog W .any base t v)
    (hW : DataW.Whole enc Tryz.prog Tryz.f3.params.toList Rows.walkNothingSpec.vars false W args.toList ds gs before) (hL : laidMetH Tryz.prog Rows.walkNothingRow.laid W) :
    Calls Tryz.prog 3 args W fun e W' => ∃ v, e = .returned v ∧ Rows.walkNothingSpec.post enc Tryz.prog Tryz.f3 false true false false W args v W' := by
  have hW' := hW
  obtain ⟨p, q, hA0, hV, rfl, hfz, hnd⟩ := hW
  have hA : DataW.TrodAll enc Tryz.prog W 0 (fun _ => true) true Tryz.f3.params.toList args.toList ds p := hA0
  rw [Tryz.params3] at hA hval
  obtain ⟨v0, vs0, d0, ds0, p0, q0, hargs, rfl, rfl, h0, r0⟩ := trodAll_cons hA
  obtain ⟨v1, vs1, d1, ds1, p1, q1, rfl, rfl, rfl, h1, r1⟩ := trodAll_cons r0
  obtain ⟨v2, vs2, d2, ds2, p2, q2, rfl, rfl, rfl, h2, r2⟩ := trodAll_cons r1
  obtain ⟨rfl, rfl, rfl⟩ := trodAll_nil r2
  obtain rfl : args = #[v0, v1, v2] := by cases args; simp_all
  obtain ⟨rfl, rfl⟩ := trodVars_none hV
  obtain ⟨a0, rfl, rfl, rfl, w0⟩ := open_int Tryz.underlying3 (hval 0 3 v0 rfl rfl) h0
  obtain ⟨a1, rfl, rfl, rfl, w1⟩ := open_int Tryz.underlying3 (hval 1 3 v1 rfl rfl) h1
  obtain ⟨a2, rfl, rfl, rfl⟩ := open_bool Tryz.underlying4 (hval 2 4 v2 rfl rfl) h2
  clear hA0
  simp only [List.append_nil] at hW'
  refine (nothing_walk W a0 a1 a2).mono fun e W' ⟨he, bel⟩ => ?_
  subst he
  exact ⟨_, rfl, _, _, _, [], _, [], hW', trodAll_mk1 (shut_bool Tryz.underlying4 _), (trodAll_cons_mk (shut_int Tryz.underlying3 w0) (trodAll_cons_mk (shut_int Tryz.underlying3 w1) (trodAll_cons_mk (shut_bool Tryz.underlying4 a2) trodAll_mk0))), rfl, bel.frame _, fun h => by cases h⟩

def nmCells : Array Value := ((List.range 51).map fun n => Value.string (nmB n)).toArray
/-- the table laid, for the witness's world -/
def layNms (o : Obj) : Obj :=
  match o with
  | .cells _ t frozen => .cells nmCells t frozen
  | o => o
theorem laid_met (os : Os) : laidMet Tryz.prog Rows.walkNothingRow.laid (({ World.holding Tryz.prog os ⟨#[], #[], []⟩ with heap := (World.holding Tryz.prog os ⟨#[], #[], []⟩).heap.modify 0 layNms } : World).forCall (fun _ _ => 0) ⟨#[], #[.int .i64 0, .int .i64 0, .bool false], []⟩).memory :=
  laidMet_of_run' 8 (by kernel_rfl) (by kernel_rfl)
theorem reads (os : Os) {H : Type} (enc : TypeId × Value → H) : ∃ places, DataW.whole enc Tryz.prog (({ World.holding Tryz.prog os ⟨#[], #[], []⟩ with heap := (World.holding Tryz.prog os ⟨#[], #[], []⟩).heap.modify 0 layNms } : World).forCall (fun _ _ => 0) ⟨#[], #[.int .i64 0, .int .i64 0, .bool false], []⟩).memory Tryz.f3.params.toList Rows.walkNothingSpec.vars false #[.int .i64 0, .int .i64 0, .bool false].toList 8 = some ([.lit (.int .i64 0), .lit (.int .i64 0), .lit (.bool false)], [], places) :=
  ⟨[], by kernel_rfl⟩
set_option maxRecDepth 100000 in
theorem lifted (os : Os) (started : os.Started) (H : Type) (enc : TypeId × Value → H) (F : Stop.Interp) :
    ReturnsInHanded {} Tryz.checked os 3 .any ((OpenSpec.ofChange Rows.walkNothingSpec).preRow enc Tryz.prog Tryz.f3 Rows.walkNothingRow.domain false Rows.walkNothingRow.laid) (((OpenSpec.ofChange Rows.walkNothingSpec).at F).post enc Tryz.prog Tryz.f3 false true false false) := by
  obtain ⟨places, hx⟩ := reads os enc
  refine returnsInHanded_of_row (C := Tryz.checked) (s := OpenSpec.ofChange Rows.walkNothingSpec) own started (by kernel_rfl) Tryz.func3
    (witness_row_at (enc := enc) (C := Tryz.checked) false ({ World.holding Tryz.prog os ⟨#[], #[], []⟩ with heap := (World.holding Tryz.prog os ⟨#[], #[], []⟩).heap.modify 0 layNms } : World) #[.int .i64 0, .int .i64 0, .bool false] rfl (by kernel_rfl) (by kernel_rfl) (by kernel_rfl)
      (OpenSpec.preRow_of_cond 8 hx (by kernel_rfl) (fun k hk => by cases hk) (by kernel_rfl) (laid_met os))) ?_
  intro W base args ds gs before hval hW _ _ _ hL _ _
  exact contract H enc W base args ds gs before hval hW hL
theorem said : Rows.WalkNothingSaid :=
  OpenClaim.holds_of_cond 3 Tryz.f3 rfl rfl rfl rfl rfl rfl rfl ⟨rfl, rfl, rfl, rfl, rfl⟩ rfl rfl rfl rfl rfl (by kernel_rfl) Tryz.func3 (by kernel_rfl)
    (of_decide_eq_true (by kernel_rfl)) (by unfold Func.isWrapper; first | (rw [if_pos (by decide +kernel)]; kernel_rfl) | (rw [if_neg (by decide +kernel)]; exact ⟨rfl, rfl⟩))
    (fun os started H enc _ F => by rw [OpenClaim.pre_eq_preRow]; exact lifted os started H enc F)
theorem plain (f : FuncId) (fn : Func) (hf : Tryz.pinned.checked.prog.funcNamed "amber/amberlaw14.WalkNothing" = some f) (hfn : Tryz.pinned.checked.prog.funcs[f]? = some fn) :
    false = Tryz.pinned.checked.prog.looks [] ∧ ∀ (j : Nat) t, fn.params[j]? = some t → Tryz.pinned.checked.prog.wantsStandIn t = false := by
  obtain rfl : f = 3 := Option.some.inj ((show Tryz.prog.funcNamed "amber/amberlaw14.WalkNothing" = some 3 by kernel_rfl).symm.trans hf) |>.symm
  obtain rfl : fn = Tryz.f3 := (Option.some.inj (Tryz.func3.symm.trans hfn)).symm
  refine ⟨by kernel_rfl, fun j t ht => ?_⟩
  rw [Tryz.params3] at ht
  have hm : t ∈ [3, 3, 4] := by simpa using Array.mem_of_getElem? ht
  have hall : ([3, 3, 4].all fun t => !Tryz.prog.wantsStandIn t) = true := by kernel_rfl
  have := List.all_eq_true.1 hall t hm
  have h2 : Tryz.prog.wantsStandIn t = false := by simpa using this
  exact h2
end Go.Proofs.YtemlakcaifnnmaaGreatDoor.walkNothing
namespace Go.Proofs.YtemlakcaifnnmaaGreatDoor
theorem walkNothing_holds : Rows.WalkNothingCardSaid :=
  Claim7.holds_tied_plain_at .later [] _ _ _ _ walkNothing.said (fun _ h => by cases h) (by kernel_rfl) (fun _ h => by cases h) walkNothing_row_tie rfl ⟨rfl, rfl⟩ (by kernel_rfl) rfl walkNothing.plain (by kernel_rfl)
#print axioms walkNothing_holds
end Go.Proofs.YtemlakcaifnnmaaGreatDoor
