/-
  NARROWER THAN 'FOR EVERY INPUT', by the rows' own cells (each row's printed sentence says how): IsaEncodes: laid · IsaBack: laid · IsaSteps: laid · IsaCodes: laid · IsaReckons: laid.
  DERIVED. THE GIVEN ROWS OF THIS SEAT. 5 by the template 'for every input the law returns true; each argument reads behind the call as it read before'; 0 by the template 'total and deterministic' (their statements: YtfonenigkjngoaaDoorTotals.lean).
  GIVEN WITH THE SEED: the statements are not yours to turn. If you find one false, say at which input.
  Laid BY PROGRAM, IN A SANDBOX (cutbox-rows.mjs): the forced cells as the released guide's own fill.sh prints them over the translation 41061cf57fe798e6… (all of the seat's roots in one cut). By AI agents, Wed Nov 11 2026. No macro, syntax, notation, axiom, sorry.
-/
import Derived.Test.YtfonenigkjngoaaDoorChecked
import GoSem.Claim
import GoSem.ClaimJoined
import GoSem.ClaimMapViews
import Derived.JoinedTies
import Derived.KernelRfl
namespace Go.Proofs.YtfonenigkjngoaaDoor
/- THE CELL 'sum', in the pinned program and in every row, IS THE sha256 OF THE DUMP (.gsa) THAT YtfonenigkjngoaaDoorProg.lean LOADS. Nothing in Lean hashes anything: it is a label: what it is worth is what the hold of that sum in a sandbox is worth. -/
noncomputable def Tryd.pinned : Pinned := { name := "ytfonenigkjngoaadoor", sum := "41061cf57fe798e6530e4b12b92a9d63360faae68d56ce60ab718414befcdf12", checked := Tryd.checked }
namespace Rows
def none {H : Type} : Left H := { results := [], args := [] }

/- WHAT THE LISTED PACKAGE-LEVEL VARIABLES READ AS WHEN THE CALL BEGINS. Each datum BY PROGRAM (the guide's laid-datum.mjs) off the statement by which the dump's own 'gosem.cut.vars' lays the variable. In a bare row this is a premise. The card (YtfonenigkjngoaaDoorCards.lean) ties it to the program's text. -/
def laid_amber_isa_operations {H : Type} : DataW H := .agg [.agg [.lit (.string []), .lit (.bool false), .lit (.bool false), .lit (.int .i64 0)], .agg [.lit (.string [110, 111, 112]), .lit (.bool false), .lit (.bool false), .lit (.int .i64 0)], .agg [.lit (.string [108, 105]), .lit (.bool true), .lit (.bool false), .lit (.int .i64 2)], .agg [.lit (.string [104, 105]), .lit (.bool true), .lit (.bool false), .lit (.int .i64 1)], .agg [.lit (.string [109, 111, 118]), .lit (.bool true), .lit (.bool true), .lit (.int .i64 0)], .agg [.lit (.string [97, 100, 100]), .lit (.bool true), .lit (.bool true), .lit (.int .i64 0)], .agg [.lit (.string [115, 117, 98]), .lit (.bool true), .lit (.bool true), .lit (.int .i64 0)], .agg [.lit (.string [109, 117, 108]), .lit (.bool true), .lit (.bool true), .lit (.int .i64 0)], .agg [.lit (.string [100, 105, 118]), .lit (.bool true), .lit (.bool true), .lit (.int .i64 0)], .agg [.lit (.string [114, 101, 109]), .lit (.bool true), .lit (.bool true), .lit (.int .i64 0)], .agg [.lit (.string [97, 110, 100]), .lit (.bool true), .lit (.bool true), .lit (.int .i64 0)], .agg [.lit (.string [111, 114]), .lit (.bool true), .lit (.bool true), .lit (.int .i64 0)], .agg [.lit (.string [120, 111, 114]), .lit (.bool true), .lit (.bool true), .lit (.int .i64 0)], .agg [.lit (.string [115, 104, 108]), .lit (.bool true), .lit (.bool true), .lit (.int .i64 0)], .agg [.lit (.string [115, 104, 114]), .lit (.bool true), .lit (.bool true), .lit (.int .i64 0)], .agg [.lit (.string [108, 116]), .lit (.bool true), .lit (.bool true), .lit (.int .i64 0)], .agg [.lit (.string [115, 108, 116]), .lit (.bool true), .lit (.bool true), .lit (.int .i64 0)], .agg [.lit (.string [101, 113]), .lit (.bool true), .lit (.bool true), .lit (.int .i64 0)], .agg [.lit (.string [97, 100, 100, 105]), .lit (.bool true), .lit (.bool false), .lit (.int .i64 2)], .agg [.lit (.string [108, 100]), .lit (.bool true), .lit (.bool true), .lit (.int .i64 2)], .agg [.lit (.string [115, 116]), .lit (.bool true), .lit (.bool true), .lit (.int .i64 2)], .agg [.lit (.string [106, 109, 112]), .lit (.bool false), .lit (.bool false), .lit (.int .i64 2)], .agg [.lit (.string [106, 122]), .lit (.bool true), .lit (.bool false), .lit (.int .i64 2)], .agg [.lit (.string [106, 110, 122]), .lit (.bool true), .lit (.bool false), .lit (.int .i64 2)], .agg [.lit (.string [106, 114]), .lit (.bool true), .lit (.bool false), .lit (.int .i64 0)], .agg [.lit (.string [99, 97, 108, 108]), .lit (.bool true), .lit (.bool false), .lit (.int .i64 2)], .agg [.lit (.string [115, 121, 115]), .lit (.bool false), .lit (.bool false), .lit (.int .i64 1)]]

/-- 'amberlaw07.IsaEncodes': WHATEVER THE INPUT: true; the input reads as it did. -/
def isaEncodesSpec : ChangeSpec := { name := "isaEncodes", fn := fun _ => fun
  | [d] => { results := [.lit (.bool true)], args := [d] }
  | _ => none }
def isaEncodesRow : OpenClaim := { program := "ytfonenigkjngoaadoor", sum := "41061cf57fe798e6530e4b12b92a9d63360faae68d56ce60ab718414befcdf12", func := "amber/amberlaw07.IsaEncodes", spec := "isaEncodes", named := ["amber/isa.operations"], apart := false, laid := [("amber/isa.operations", laid_amber_isa_operations)] }
def IsaEncodesSaid : Prop := isaEncodesRow.holds Tryd.pinned (OpenSpec.ofChange isaEncodesSpec)

/-- ITS FALSE NEIGHBOUR: 'it returns false'. Refute it at one input. -/
def isaEncodesWrong : ChangeSpec := { name := "isaEncodes", fn := fun _ => fun
  | [d] => { results := [.lit (.bool false)], args := [d] }
  | _ => none }
def IsaEncodesWrongFalsely : Prop := isaEncodesRow.holds Tryd.pinned (OpenSpec.ofChange isaEncodesWrong)

/-- 'amberlaw07.IsaBack': WHATEVER THE INPUT: true; the input reads as it did. -/
def isaBackSpec : ChangeSpec := { name := "isaBack", fn := fun _ => fun
  | [d1, d2] => { results := [.lit (.bool true)], args := [d1, d2] }
  | _ => none }
def isaBackRow : OpenClaim := { program := "ytfonenigkjngoaadoor", sum := "41061cf57fe798e6530e4b12b92a9d63360faae68d56ce60ab718414befcdf12", func := "amber/amberlaw07.IsaBack", spec := "isaBack", named := ["amber/isa.operations"], apart := false, laid := [("amber/isa.operations", laid_amber_isa_operations)] }
def IsaBackSaid : Prop := isaBackRow.holds Tryd.pinned (OpenSpec.ofChange isaBackSpec)

/-- ITS FALSE NEIGHBOUR: 'it returns false'. Refute it at one input. -/
def isaBackWrong : ChangeSpec := { name := "isaBack", fn := fun _ => fun
  | [d1, d2] => { results := [.lit (.bool false)], args := [d1, d2] }
  | _ => none }
def IsaBackWrongFalsely : Prop := isaBackRow.holds Tryd.pinned (OpenSpec.ofChange isaBackWrong)

/-- 'amberlaw07.IsaSteps': WHATEVER THE INPUT: true; the input reads as it did. -/
def isaStepsSpec : ChangeSpec := { name := "isaSteps", fn := fun _ => fun
  | [d1, d2] => { results := [.lit (.bool true)], args := [d1, d2] }
  | _ => none }
def isaStepsRow : OpenClaim := { program := "ytfonenigkjngoaadoor", sum := "41061cf57fe798e6530e4b12b92a9d63360faae68d56ce60ab718414befcdf12", func := "amber/amberlaw07.IsaSteps", spec := "isaSteps", named := ["amber/isa.operations"], apart := false, laid := [("amber/isa.operations", laid_amber_isa_operations)] }
def IsaStepsSaid : Prop := isaStepsRow.holds Tryd.pinned (OpenSpec.ofChange isaStepsSpec)

/-- ITS FALSE NEIGHBOUR: 'it returns false'. Refute it at one input. -/
def isaStepsWrong : ChangeSpec := { name := "isaSteps", fn := fun _ => fun
  | [d1, d2] => { results := [.lit (.bool false)], args := [d1, d2] }
  | _ => none }
def IsaStepsWrongFalsely : Prop := isaStepsRow.holds Tryd.pinned (OpenSpec.ofChange isaStepsWrong)

/-- 'amberlaw07.IsaCodes': WHATEVER THE INPUT: true; the input reads as it did. -/
def isaCodesSpec : ChangeSpec := { name := "isaCodes", fn := fun _ => fun
  | [d] => { results := [.lit (.bool true)], args := [d] }
  | _ => none }
def isaCodesRow : OpenClaim := { program := "ytfonenigkjngoaadoor", sum := "41061cf57fe798e6530e4b12b92a9d63360faae68d56ce60ab718414befcdf12", func := "amber/amberlaw07.IsaCodes", spec := "isaCodes", named := ["amber/isa.operations"], apart := false, laid := [("amber/isa.operations", laid_amber_isa_operations)] }
def IsaCodesSaid : Prop := isaCodesRow.holds Tryd.pinned (OpenSpec.ofChange isaCodesSpec)

/-- ITS FALSE NEIGHBOUR: 'it returns false'. Refute it at one input. -/
def isaCodesWrong : ChangeSpec := { name := "isaCodes", fn := fun _ => fun
  | [d] => { results := [.lit (.bool false)], args := [d] }
  | _ => none }
def IsaCodesWrongFalsely : Prop := isaCodesRow.holds Tryd.pinned (OpenSpec.ofChange isaCodesWrong)

/-- 'amberlaw07.IsaReckons': WHATEVER THE INPUT: true; the input reads as it did. -/
def isaReckonsSpec : ChangeSpec := { name := "isaReckons", fn := fun _ => fun
  | [d1, d2] => { results := [.lit (.bool true)], args := [d1, d2] }
  | _ => none }
def isaReckonsRow : OpenClaim := { program := "ytfonenigkjngoaadoor", sum := "41061cf57fe798e6530e4b12b92a9d63360faae68d56ce60ab718414befcdf12", func := "amber/amberlaw07.IsaReckons", spec := "isaReckons", named := ["amber/isa.operations"], apart := false, laid := [("amber/isa.operations", laid_amber_isa_operations)] }
def IsaReckonsSaid : Prop := isaReckonsRow.holds Tryd.pinned (OpenSpec.ofChange isaReckonsSpec)

/-- ITS FALSE NEIGHBOUR: 'it returns false'. Refute it at one input. -/
def isaReckonsWrong : ChangeSpec := { name := "isaReckons", fn := fun _ => fun
  | [d1, d2] => { results := [.lit (.bool false)], args := [d1, d2] }
  | _ => none }
def IsaReckonsWrongFalsely : Prop := isaReckonsRow.holds Tryd.pinned (OpenSpec.ofChange isaReckonsWrong)

/- THE SECOND FORM. 'bulk': how many values and letters a reading holds, each counted each time it is reached (what is shared counts as often as it is met; a slice's spare places count too). A statement '..UptoSaid' is the law's where the arguments, and the package variables that the reading takes, are together of bulk at most 1048576: NARROWER than '..Said'. Prove '..Said' where nothing that the law and all that it calls make is longer than what came in: it says more and counts as full. Else prove '..UptoSaid'. A law counts once. -/
mutual
def uptoBulk {H : Type} : DataW H → Nat
  | .lit (.string bytes) => bytes.length + 1
  | .lit _ => 1
  | .nil => 1
  | .ptr d => uptoBulk d + 1
  | .slice elems spare => uptoBulkAll elems + uptoBulkAll spare + 1
  | .agg parts => uptoBulkAll parts + 1
  | .iface _ d => uptoBulk d + 1
  | .map entries => uptoBulkEntries entries + 1
  | .held _ => 1
def uptoBulkAll {H : Type} : List (DataW H) → Nat
  | [] => 0
  | d :: r => uptoBulk d + uptoBulkAll r
def uptoBulkEntries {H : Type} : List (Lit × DataW H) → Nat
  | [] => 0
  | x :: r => uptoBulkEntry x + uptoBulkEntries r
def uptoBulkEntry {H : Type} : Lit × DataW H → Nat
  | (.string bytes, d) => bytes.length + uptoBulk d + 1
  | (_, d) => uptoBulk d + 1
 end
def uptoSmall : (H : Type) → List (DataW H) → Bool := fun _ ds => decide (uptoBulkAll ds ≤ 1048576)
def OpenSpec.upto (s : _root_.Go.ChangeSpec) : _root_.Go.OpenSpec := { _root_.Go.OpenSpec.ofChange s with cond := some uptoSmall }

/-- 'amberlaw07.IsaEncodes', WHERE WHAT IT READS IS OF BULK AT MOST 1048576: true; the input reads as it did. -/
def isaEncodesUptoRow : OpenClaim := { program := "ytfonenigkjngoaadoor", sum := "41061cf57fe798e6530e4b12b92a9d63360faae68d56ce60ab718414befcdf12", func := "amber/amberlaw07.IsaEncodes", spec := "isaEncodes", named := ["amber/isa.operations"], apart := false, laid := [("amber/isa.operations", laid_amber_isa_operations)], narrowed := true }
def IsaEncodesUptoSaid : Prop := isaEncodesUptoRow.holds Tryd.pinned (OpenSpec.upto isaEncodesSpec)

/-- 'amberlaw07.IsaBack', WHERE WHAT IT READS IS OF BULK AT MOST 1048576: true; the input reads as it did. -/
def isaBackUptoRow : OpenClaim := { program := "ytfonenigkjngoaadoor", sum := "41061cf57fe798e6530e4b12b92a9d63360faae68d56ce60ab718414befcdf12", func := "amber/amberlaw07.IsaBack", spec := "isaBack", named := ["amber/isa.operations"], apart := false, laid := [("amber/isa.operations", laid_amber_isa_operations)], narrowed := true }
def IsaBackUptoSaid : Prop := isaBackUptoRow.holds Tryd.pinned (OpenSpec.upto isaBackSpec)

/-- 'amberlaw07.IsaSteps', WHERE WHAT IT READS IS OF BULK AT MOST 1048576: true; the input reads as it did. -/
def isaStepsUptoRow : OpenClaim := { program := "ytfonenigkjngoaadoor", sum := "41061cf57fe798e6530e4b12b92a9d63360faae68d56ce60ab718414befcdf12", func := "amber/amberlaw07.IsaSteps", spec := "isaSteps", named := ["amber/isa.operations"], apart := false, laid := [("amber/isa.operations", laid_amber_isa_operations)], narrowed := true }
def IsaStepsUptoSaid : Prop := isaStepsUptoRow.holds Tryd.pinned (OpenSpec.upto isaStepsSpec)

/-- 'amberlaw07.IsaCodes', WHERE WHAT IT READS IS OF BULK AT MOST 1048576: true; the input reads as it did. -/
def isaCodesUptoRow : OpenClaim := { program := "ytfonenigkjngoaadoor", sum := "41061cf57fe798e6530e4b12b92a9d63360faae68d56ce60ab718414befcdf12", func := "amber/amberlaw07.IsaCodes", spec := "isaCodes", named := ["amber/isa.operations"], apart := false, laid := [("amber/isa.operations", laid_amber_isa_operations)], narrowed := true }
def IsaCodesUptoSaid : Prop := isaCodesUptoRow.holds Tryd.pinned (OpenSpec.upto isaCodesSpec)

/-- 'amberlaw07.IsaReckons', WHERE WHAT IT READS IS OF BULK AT MOST 1048576: true; the input reads as it did. -/
def isaReckonsUptoRow : OpenClaim := { program := "ytfonenigkjngoaadoor", sum := "41061cf57fe798e6530e4b12b92a9d63360faae68d56ce60ab718414befcdf12", func := "amber/amberlaw07.IsaReckons", spec := "isaReckons", named := ["amber/isa.operations"], apart := false, laid := [("amber/isa.operations", laid_amber_isa_operations)], narrowed := true }
def IsaReckonsUptoSaid : Prop := isaReckonsUptoRow.holds Tryd.pinned (OpenSpec.upto isaReckonsSpec)

end Rows
end Go.Proofs.YtfonenigkjngoaaDoor
