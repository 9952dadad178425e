/-
  NARROWER THAN 'FOR EVERY INPUT', by the rows' own cells (each row's printed sentence says how): WalkNothing: laid.
  DERIVED. THE GIVEN ROWS OF THIS SEAT. 1 by the template 'for every input the law returns true; each argument reads behind the call as it read before'; 0 by the template 'total and deterministic' (their statements: YtemlakcaifnnmaaGreatDoorTotals.lean).
  GIVEN WITH THE SEED: the statements are not yours to turn. If you find one false, say at which input.
  Laid BY PROGRAM, IN A SANDBOX (cutbox-rows.mjs): the forced cells as the released guide's own fill.sh prints them over the translation 5455662bb83eebc5… (all of the seat's roots in one cut). By AI agents, Wed Nov 11 2026. No macro, syntax, notation, axiom, sorry.
-/
import Derived.Test.YtemlakcaifnnmaaGreatDoorChecked
import GoSem.Claim
import GoSem.ClaimJoined
import GoSem.ClaimMapViews
import Derived.JoinedTies
import Derived.KernelRfl
namespace Go.Proofs.YtemlakcaifnnmaaGreatDoor
/- THE CELL 'sum', in the pinned program and in every row, IS THE sha256 OF THE DUMP (.gsa) THAT YtemlakcaifnnmaaGreatDoorProg.lean LOADS. Nothing in Lean hashes anything: it is a label: what it is worth is what the hold of that sum in a sandbox is worth. -/
noncomputable def Tryz.pinned : Pinned := { name := "ytemlakcaifnnmaagreatdoor", sum := "5455662bb83eebc500c802ddf3114381e51cb16e7dfe8931a591f6f121431b55", checked := Tryz.checked }
namespace Rows
def none {H : Type} : Left H := { results := [], args := [] }

/- WHAT THE LISTED PACKAGE-LEVEL VARIABLES READ AS WHEN THE CALL BEGINS. Each datum BY PROGRAM (the guide's laid-datum.mjs) off the statement by which the dump's own 'gosem.cut.vars' lays the variable. In a bare row this is a premise. The card (YtemlakcaifnnmaaGreatDoorCards.lean) ties it to the program's text. -/
def laid_amber_gate_names {H : Type} : DataW H := .agg [.lit (.string [121, 105, 101, 108, 100]), .lit (.string [101, 120, 105, 116]), .lit (.string [97, 108, 108, 111, 99]), .lit (.string [109, 97, 112]), .lit (.string [117, 110, 109, 97, 112]), .lit (.string [100, 101, 114, 105, 118, 101]), .lit (.string [103, 114, 97, 110, 116]), .lit (.string [100, 114, 111, 112]), .lit (.string [114, 101, 118, 111, 107, 101]), .lit (.string [115, 112, 97, 119, 110]), .lit (.string [115, 116, 97, 114, 116]), .lit (.string [110, 111, 116, 105, 102, 121]), .lit (.string [119, 97, 105, 116]), .lit (.string [107, 105, 108, 108]), .lit (.string [101, 109, 105, 116]), .lit (.string [105, 110, 102, 111]), .lit (.string [114, 101, 97, 100]), .lit (.string [119, 114, 105, 116, 101]), .lit (.string [112, 114, 111, 116, 101, 99, 116]), .lit (.string [109, 97, 112, 105, 110]), .lit (.string [108, 101, 102, 116]), .lit (.string [115, 116, 97, 116, 117, 115]), .lit (.string [115, 101, 116, 114, 101, 103]), .lit (.string [103, 101, 116, 114, 101, 103]), .lit (.string [97, 115, 107]), .lit (.string []), .lit (.string []), .lit (.string []), .lit (.string []), .lit (.string []), .lit (.string []), .lit (.string []), .lit (.string [99, 111, 117, 110, 116]), .lit (.string [101, 110, 118]), .lit (.string [99, 97, 112, 115]), .lit (.string [109, 97, 112, 115]), .lit (.string [112, 97, 103, 101]), .lit (.string [99, 108, 101, 97, 110]), .lit (.string [102, 114, 101, 101, 122, 101]), .lit (.string [110, 101, 119]), .lit (.string [115, 101, 116]), .lit (.string [102, 105, 108, 108]), .lit (.string [112, 108, 97, 99, 101]), .lit (.string [99, 111, 112, 121]), .lit (.string [115, 101, 108, 102]), .lit (.string [110, 97, 116, 109, 97, 112, 105, 110]), .lit (.string [99, 108, 97, 105, 109]), .lit (.string [110, 97, 116, 114, 101, 97, 100]), .lit (.string [110, 97, 116, 119, 114, 105, 116, 101]), .lit (.string [102, 108, 117, 115, 104]), .lit (.string [110, 97, 116, 108, 101, 102, 116])]

/-- 'amberlaw14.WalkNothing': WHATEVER THE INPUT: true; the input reads as it did. -/
def walkNothingSpec : ChangeSpec := { name := "walkNothing", fn := fun _ => fun
  | [d1, d2, d3] => { results := [.lit (.bool true)], args := [d1, d2, d3] }
  | _ => none }
def walkNothingRow : OpenClaim := { program := "ytemlakcaifnnmaagreatdoor", sum := "5455662bb83eebc500c802ddf3114381e51cb16e7dfe8931a591f6f121431b55", func := "amber/amberlaw14.WalkNothing", spec := "walkNothing", unfollowed := true, recurses := true, named := ["amber/gate.names"], apart := false, laid := [("amber/gate.names", laid_amber_gate_names)] }
def WalkNothingSaid : Prop := walkNothingRow.holds Tryz.pinned (OpenSpec.ofChange walkNothingSpec)

/-- ITS FALSE NEIGHBOUR: 'it returns false'. Refute it at one input. -/
def walkNothingWrong : ChangeSpec := { name := "walkNothing", fn := fun _ => fun
  | [d1, d2, d3] => { results := [.lit (.bool false)], args := [d1, d2, d3] }
  | _ => none }
def WalkNothingWrongFalsely : Prop := walkNothingRow.holds Tryz.pinned (OpenSpec.ofChange walkNothingWrong)

/- THE SECOND FORM. 'bulk': how many values and letters a reading holds, each counted each time it is reached (what is shared counts as often as it is met; a slice's spare places count too). A statement '..UptoSaid' is the law's where the arguments, and the package variables that the reading takes, are together of bulk at most 1048576: NARROWER than '..Said'. Prove '..Said' where nothing that the law and all that it calls make is longer than what came in: it says more and counts as full. Else prove '..UptoSaid'. A law counts once. -/
mutual
def uptoBulk {H : Type} : DataW H → Nat
  | .lit (.string bytes) => bytes.length + 1
  | .lit _ => 1
  | .nil => 1
  | .ptr d => uptoBulk d + 1
  | .slice elems spare => uptoBulkAll elems + uptoBulkAll spare + 1
  | .agg parts => uptoBulkAll parts + 1
  | .iface _ d => uptoBulk d + 1
  | .map entries => uptoBulkEntries entries + 1
  | .held _ => 1
def uptoBulkAll {H : Type} : List (DataW H) → Nat
  | [] => 0
  | d :: r => uptoBulk d + uptoBulkAll r
def uptoBulkEntries {H : Type} : List (Lit × DataW H) → Nat
  | [] => 0
  | x :: r => uptoBulkEntry x + uptoBulkEntries r
def uptoBulkEntry {H : Type} : Lit × DataW H → Nat
  | (.string bytes, d) => bytes.length + uptoBulk d + 1
  | (_, d) => uptoBulk d + 1
 end
def uptoSmall : (H : Type) → List (DataW H) → Bool := fun _ ds => decide (uptoBulkAll ds ≤ 1048576)
def OpenSpec.upto (s : _root_.Go.ChangeSpec) : _root_.Go.OpenSpec := { _root_.Go.OpenSpec.ofChange s with cond := some uptoSmall }

/-- 'amberlaw14.WalkNothing', WHERE WHAT IT READS IS OF BULK AT MOST 1048576: true; the input reads as it did. -/
def walkNothingUptoRow : OpenClaim := { program := "ytemlakcaifnnmaagreatdoor", sum := "5455662bb83eebc500c802ddf3114381e51cb16e7dfe8931a591f6f121431b55", func := "amber/amberlaw14.WalkNothing", spec := "walkNothing", unfollowed := true, recurses := true, named := ["amber/gate.names"], apart := false, laid := [("amber/gate.names", laid_amber_gate_names)], narrowed := true }
def WalkNothingUptoSaid : Prop := walkNothingUptoRow.holds Tryz.pinned (OpenSpec.upto walkNothingSpec)

end Rows
end Go.Proofs.YtemlakcaifnnmaaGreatDoor
