/-
  NARROWER THAN 'FOR EVERY INPUT', by the rows' own cells (each row's printed sentence says how): IsaExecs: laid.
  DERIVED. THE GIVEN ROWS OF THIS SEAT. 1 by the template 'for every input the law returns true; each argument reads behind the call as it read before'; 0 by the template 'total and deterministic' (their statements: YtjhphhcmefeiiaaDoorTotals.lean).
  GIVEN WITH THE SEED: the statements are not yours to turn. If you find one false, say at which input.
  Laid BY PROGRAM, IN A SANDBOX (cutbox-rows.mjs): the forced cells as the released guide's own fill.sh prints them over the translation f534b961c9ce3c18… (all of the seat's roots in one cut). By AI agents, Wed Nov 11 2026. No macro, syntax, notation, axiom, sorry.
-/
import Derived.Test.YtjhphhcmefeiiaaDoorChecked
import GoSem.Claim
import GoSem.ClaimJoined
import GoSem.ClaimMapViews
import Derived.JoinedTies
import Derived.KernelRfl
namespace Go.Proofs.YtjhphhcmefeiiaaDoor
/- THE CELL 'sum', in the pinned program and in every row, IS THE sha256 OF THE DUMP (.gsa) THAT YtjhphhcmefeiiaaDoorProg.lean LOADS. Nothing in Lean hashes anything: it is a label: what it is worth is what the hold of that sum in a sandbox is worth. -/
noncomputable def Tryd.pinned : Pinned := { name := "ytjhphhcmefeiiaadoor", sum := "f534b961c9ce3c18869ecc1173908abf3abb5245d1cb3e2a337dbe3dffc8123d", checked := Tryd.checked }
namespace Rows
def none {H : Type} : Left H := { results := [], args := [] }

/- WHAT THE LISTED PACKAGE-LEVEL VARIABLES READ AS WHEN THE CALL BEGINS. Each datum BY PROGRAM (the guide's laid-datum.mjs) off the statement by which the dump's own 'gosem.cut.vars' lays the variable. In a bare row this is a premise. The card (YtjhphhcmefeiiaaDoorCards.lean) ties it to the program's text. -/
def laid_amber_isa_operations {H : Type} : DataW H := .agg [.agg [.lit (.string []), .lit (.bool false), .lit (.bool false), .lit (.int .i64 0)], .agg [.lit (.string [110, 111, 112]), .lit (.bool false), .lit (.bool false), .lit (.int .i64 0)], .agg [.lit (.string [108, 105]), .lit (.bool true), .lit (.bool false), .lit (.int .i64 2)], .agg [.lit (.string [104, 105]), .lit (.bool true), .lit (.bool false), .lit (.int .i64 1)], .agg [.lit (.string [109, 111, 118]), .lit (.bool true), .lit (.bool true), .lit (.int .i64 0)], .agg [.lit (.string [97, 100, 100]), .lit (.bool true), .lit (.bool true), .lit (.int .i64 0)], .agg [.lit (.string [115, 117, 98]), .lit (.bool true), .lit (.bool true), .lit (.int .i64 0)], .agg [.lit (.string [109, 117, 108]), .lit (.bool true), .lit (.bool true), .lit (.int .i64 0)], .agg [.lit (.string [100, 105, 118]), .lit (.bool true), .lit (.bool true), .lit (.int .i64 0)], .agg [.lit (.string [114, 101, 109]), .lit (.bool true), .lit (.bool true), .lit (.int .i64 0)], .agg [.lit (.string [97, 110, 100]), .lit (.bool true), .lit (.bool true), .lit (.int .i64 0)], .agg [.lit (.string [111, 114]), .lit (.bool true), .lit (.bool true), .lit (.int .i64 0)], .agg [.lit (.string [120, 111, 114]), .lit (.bool true), .lit (.bool true), .lit (.int .i64 0)], .agg [.lit (.string [115, 104, 108]), .lit (.bool true), .lit (.bool true), .lit (.int .i64 0)], .agg [.lit (.string [115, 104, 114]), .lit (.bool true), .lit (.bool true), .lit (.int .i64 0)], .agg [.lit (.string [108, 116]), .lit (.bool true), .lit (.bool true), .lit (.int .i64 0)], .agg [.lit (.string [115, 108, 116]), .lit (.bool true), .lit (.bool true), .lit (.int .i64 0)], .agg [.lit (.string [101, 113]), .lit (.bool true), .lit (.bool true), .lit (.int .i64 0)], .agg [.lit (.string [97, 100, 100, 105]), .lit (.bool true), .lit (.bool false), .lit (.int .i64 2)], .agg [.lit (.string [108, 100]), .lit (.bool true), .lit (.bool true), .lit (.int .i64 2)], .agg [.lit (.string [115, 116]), .lit (.bool true), .lit (.bool true), .lit (.int .i64 2)], .agg [.lit (.string [106, 109, 112]), .lit (.bool false), .lit (.bool false), .lit (.int .i64 2)], .agg [.lit (.string [106, 122]), .lit (.bool true), .lit (.bool false), .lit (.int .i64 2)], .agg [.lit (.string [106, 110, 122]), .lit (.bool true), .lit (.bool false), .lit (.int .i64 2)], .agg [.lit (.string [106, 114]), .lit (.bool true), .lit (.bool false), .lit (.int .i64 0)], .agg [.lit (.string [99, 97, 108, 108]), .lit (.bool true), .lit (.bool false), .lit (.int .i64 2)], .agg [.lit (.string [115, 121, 115]), .lit (.bool false), .lit (.bool false), .lit (.int .i64 1)]]

/-- 'amberlaw07.IsaExecs': WHATEVER THE INPUT: true; the input reads as it did. -/
def isaExecsSpec : ChangeSpec := { name := "isaExecs", fn := fun _ => fun
  | [d1, d2] => { results := [.lit (.bool true)], args := [d1, d2] }
  | _ => none }
def isaExecsRow : OpenClaim := { program := "ytjhphhcmefeiiaadoor", sum := "f534b961c9ce3c18869ecc1173908abf3abb5245d1cb3e2a337dbe3dffc8123d", func := "amber/amberlaw07.IsaExecs", spec := "isaExecs", named := ["amber/isa.operations"], apart := false, laid := [("amber/isa.operations", laid_amber_isa_operations)] }
def IsaExecsSaid : Prop := isaExecsRow.holds Tryd.pinned (OpenSpec.ofChange isaExecsSpec)

/-- ITS FALSE NEIGHBOUR: 'it returns false'. Refute it at one input. -/
def isaExecsWrong : ChangeSpec := { name := "isaExecs", fn := fun _ => fun
  | [d1, d2] => { results := [.lit (.bool false)], args := [d1, d2] }
  | _ => none }
def IsaExecsWrongFalsely : Prop := isaExecsRow.holds Tryd.pinned (OpenSpec.ofChange isaExecsWrong)

/- THE SECOND FORM. 'bulk': how many values and letters a reading holds, each counted each time it is reached (what is shared counts as often as it is met; a slice's spare places count too). A statement '..UptoSaid' is the law's where the arguments, and the package variables that the reading takes, are together of bulk at most 1048576: NARROWER than '..Said'. Prove '..Said' where nothing that the law and all that it calls make is longer than what came in: it says more and counts as full. Else prove '..UptoSaid'. A law counts once. -/
mutual
def uptoBulk {H : Type} : DataW H → Nat
  | .lit (.string bytes) => bytes.length + 1
  | .lit _ => 1
  | .nil => 1
  | .ptr d => uptoBulk d + 1
  | .slice elems spare => uptoBulkAll elems + uptoBulkAll spare + 1
  | .agg parts => uptoBulkAll parts + 1
  | .iface _ d => uptoBulk d + 1
  | .map entries => uptoBulkEntries entries + 1
  | .held _ => 1
def uptoBulkAll {H : Type} : List (DataW H) → Nat
  | [] => 0
  | d :: r => uptoBulk d + uptoBulkAll r
def uptoBulkEntries {H : Type} : List (Lit × DataW H) → Nat
  | [] => 0
  | x :: r => uptoBulkEntry x + uptoBulkEntries r
def uptoBulkEntry {H : Type} : Lit × DataW H → Nat
  | (.string bytes, d) => bytes.length + uptoBulk d + 1
  | (_, d) => uptoBulk d + 1
 end
def uptoSmall : (H : Type) → List (DataW H) → Bool := fun _ ds => decide (uptoBulkAll ds ≤ 1048576)
def OpenSpec.upto (s : _root_.Go.ChangeSpec) : _root_.Go.OpenSpec := { _root_.Go.OpenSpec.ofChange s with cond := some uptoSmall }

/-- 'amberlaw07.IsaExecs', WHERE WHAT IT READS IS OF BULK AT MOST 1048576: true; the input reads as it did. -/
def isaExecsUptoRow : OpenClaim := { program := "ytjhphhcmefeiiaadoor", sum := "f534b961c9ce3c18869ecc1173908abf3abb5245d1cb3e2a337dbe3dffc8123d", func := "amber/amberlaw07.IsaExecs", spec := "isaExecs", named := ["amber/isa.operations"], apart := false, laid := [("amber/isa.operations", laid_amber_isa_operations)], narrowed := true }
def IsaExecsUptoSaid : Prop := isaExecsUptoRow.holds Tryd.pinned (OpenSpec.upto isaExecsSpec)

end Rows
end Go.Proofs.YtjhphhcmefeiiaaDoor
