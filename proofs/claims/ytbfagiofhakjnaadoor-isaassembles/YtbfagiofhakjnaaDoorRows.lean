/-
  NARROWER THAN 'FOR EVERY INPUT', by the rows' own cells (each row's printed sentence says how): IsaAssembles: laid.
  DERIVED. THE GIVEN ROWS OF THIS SEAT. 1 by the template 'for every input the law returns true; each argument reads behind the call as it read before'; 0 by the template 'total and deterministic' (their statements: YtbfagiofhakjnaaDoorTotals.lean).
  GIVEN WITH THE SEED: the statements are not yours to turn. If you find one false, say at which input.
  Laid BY PROGRAM, IN A SANDBOX (cutbox-rows.mjs): the forced cells as the released guide's own fill.sh prints them over the translation e196bd71fcedf67d… (all of the seat's roots in one cut). By AI agents, Wed Nov 11 2026. No macro, syntax, notation, axiom, sorry.
-/
import Derived.Test.YtbfagiofhakjnaaDoorChecked
import GoSem.PinnedTables
import GoSem.Claim
import GoSem.ClaimJoined
import GoSem.ClaimMapViews
import Derived.JoinedTies
import Derived.KernelRfl
namespace Go.Proofs.YtbfagiofhakjnaaDoor
/- THE CELL 'sum', in the pinned program and in every row, IS THE sha256 OF THE DUMP (.gsa) THAT YtbfagiofhakjnaaDoorProg.lean LOADS. Nothing in Lean hashes anything: it is a label: what it is worth is what the hold of that sum in a sandbox is worth. -/
noncomputable def Tryd.pinned : Pinned := { name := "ytbfagiofhakjnaadoor", sum := "e196bd71fcedf67d2e1747ed341ea2a18d5644ef4cf60e8d07756b353d5d4bb0", checked := Tryd.checked }
namespace Rows
def none {H : Type} : Left H := { results := [], args := [] }

/- WHAT THE LISTED PACKAGE-LEVEL VARIABLES READ AS WHEN THE CALL BEGINS. Each datum BY PROGRAM (the guide's laid-datum.mjs) off the statement by which the dump's own 'gosem.cut.vars' lays the variable. In a bare row this is a premise. The card (YtbfagiofhakjnaaDoorCards.lean) ties it to the program's text. -/
def laid_unicode_utf8_acceptRanges {H : Type} : DataW H := .agg [.agg [.lit (.int .u8 128), .lit (.int .u8 191)], .agg [.lit (.int .u8 160), .lit (.int .u8 191)], .agg [.lit (.int .u8 128), .lit (.int .u8 159)], .agg [.lit (.int .u8 144), .lit (.int .u8 191)], .agg [.lit (.int .u8 128), .lit (.int .u8 143)], .agg [.lit (.int .u8 0), .lit (.int .u8 0)], .agg [.lit (.int .u8 0), .lit (.int .u8 0)], .agg [.lit (.int .u8 0), .lit (.int .u8 0)], .agg [.lit (.int .u8 0), .lit (.int .u8 0)], .agg [.lit (.int .u8 0), .lit (.int .u8 0)], .agg [.lit (.int .u8 0), .lit (.int .u8 0)], .agg [.lit (.int .u8 0), .lit (.int .u8 0)], .agg [.lit (.int .u8 0), .lit (.int .u8 0)], .agg [.lit (.int .u8 0), .lit (.int .u8 0)], .agg [.lit (.int .u8 0), .lit (.int .u8 0)], .agg [.lit (.int .u8 0), .lit (.int .u8 0)]]
def laid_amber_amberref07_names {H : Type} : DataW H := .agg [.lit (.string []), .lit (.string [110, 111, 112]), .lit (.string [108, 105]), .lit (.string [104, 105]), .lit (.string [109, 111, 118]), .lit (.string [97, 100, 100]), .lit (.string [115, 117, 98]), .lit (.string [109, 117, 108]), .lit (.string [100, 105, 118]), .lit (.string [114, 101, 109]), .lit (.string [97, 110, 100]), .lit (.string [111, 114]), .lit (.string [120, 111, 114]), .lit (.string [115, 104, 108]), .lit (.string [115, 104, 114]), .lit (.string [108, 116]), .lit (.string [115, 108, 116]), .lit (.string [101, 113]), .lit (.string [97, 100, 100, 105]), .lit (.string [108, 100]), .lit (.string [115, 116]), .lit (.string [106, 109, 112]), .lit (.string [106, 122]), .lit (.string [106, 110, 122]), .lit (.string [106, 114]), .lit (.string [99, 97, 108, 108]), .lit (.string [115, 121, 115])]
def laid_amber_isa_operations {H : Type} : DataW H := .agg [.agg [.lit (.string []), .lit (.bool false), .lit (.bool false), .lit (.int .i64 0)], .agg [.lit (.string [110, 111, 112]), .lit (.bool false), .lit (.bool false), .lit (.int .i64 0)], .agg [.lit (.string [108, 105]), .lit (.bool true), .lit (.bool false), .lit (.int .i64 2)], .agg [.lit (.string [104, 105]), .lit (.bool true), .lit (.bool false), .lit (.int .i64 1)], .agg [.lit (.string [109, 111, 118]), .lit (.bool true), .lit (.bool true), .lit (.int .i64 0)], .agg [.lit (.string [97, 100, 100]), .lit (.bool true), .lit (.bool true), .lit (.int .i64 0)], .agg [.lit (.string [115, 117, 98]), .lit (.bool true), .lit (.bool true), .lit (.int .i64 0)], .agg [.lit (.string [109, 117, 108]), .lit (.bool true), .lit (.bool true), .lit (.int .i64 0)], .agg [.lit (.string [100, 105, 118]), .lit (.bool true), .lit (.bool true), .lit (.int .i64 0)], .agg [.lit (.string [114, 101, 109]), .lit (.bool true), .lit (.bool true), .lit (.int .i64 0)], .agg [.lit (.string [97, 110, 100]), .lit (.bool true), .lit (.bool true), .lit (.int .i64 0)], .agg [.lit (.string [111, 114]), .lit (.bool true), .lit (.bool true), .lit (.int .i64 0)], .agg [.lit (.string [120, 111, 114]), .lit (.bool true), .lit (.bool true), .lit (.int .i64 0)], .agg [.lit (.string [115, 104, 108]), .lit (.bool true), .lit (.bool true), .lit (.int .i64 0)], .agg [.lit (.string [115, 104, 114]), .lit (.bool true), .lit (.bool true), .lit (.int .i64 0)], .agg [.lit (.string [108, 116]), .lit (.bool true), .lit (.bool true), .lit (.int .i64 0)], .agg [.lit (.string [115, 108, 116]), .lit (.bool true), .lit (.bool true), .lit (.int .i64 0)], .agg [.lit (.string [101, 113]), .lit (.bool true), .lit (.bool true), .lit (.int .i64 0)], .agg [.lit (.string [97, 100, 100, 105]), .lit (.bool true), .lit (.bool false), .lit (.int .i64 2)], .agg [.lit (.string [108, 100]), .lit (.bool true), .lit (.bool true), .lit (.int .i64 2)], .agg [.lit (.string [115, 116]), .lit (.bool true), .lit (.bool true), .lit (.int .i64 2)], .agg [.lit (.string [106, 109, 112]), .lit (.bool false), .lit (.bool false), .lit (.int .i64 2)], .agg [.lit (.string [106, 122]), .lit (.bool true), .lit (.bool false), .lit (.int .i64 2)], .agg [.lit (.string [106, 110, 122]), .lit (.bool true), .lit (.bool false), .lit (.int .i64 2)], .agg [.lit (.string [106, 114]), .lit (.bool true), .lit (.bool false), .lit (.int .i64 0)], .agg [.lit (.string [99, 97, 108, 108]), .lit (.bool true), .lit (.bool false), .lit (.int .i64 2)], .agg [.lit (.string [115, 121, 115]), .lit (.bool false), .lit (.bool false), .lit (.int .i64 1)]]
/-- One of Go's own tables, pinned by name: the form's constant. -/
def laid_unicode_utf8_first : DataW Unit := Go.Pinned.utf8First

/-- 'amberlaw07.IsaAssembles': WHATEVER THE INPUT: true; the input reads as it did. -/
def isaAssemblesSpec : ChangeSpec := { name := "isaAssembles", fn := fun _ => fun
  | [d] => { results := [.lit (.bool true)], args := [d] }
  | _ => none }
def isaAssemblesRow : OpenClaim := { program := "ytbfagiofhakjnaadoor", sum := "e196bd71fcedf67d2e1747ed341ea2a18d5644ef4cf60e8d07756b353d5d4bb0", func := "amber/amberlaw07.IsaAssembles", spec := "isaAssembles", inPlace := ["internal/bytealg.IndexByteString", "internal/bytealg.IndexString"], named := ["unicode/utf8.first", "unicode/utf8.acceptRanges", "amber/isa.operations", "amber/amberref07.names", "internal/bytealg.MaxLen"], apart := false, laid := [("unicode/utf8.acceptRanges", laid_unicode_utf8_acceptRanges), ("amber/amberref07.names", laid_amber_amberref07_names), ("amber/isa.operations", laid_amber_isa_operations), ("unicode/utf8.first", laid_unicode_utf8_first)] }
def IsaAssemblesSaid : Prop := isaAssemblesRow.holds Tryd.pinned (OpenSpec.ofChange isaAssemblesSpec)

/-- ITS FALSE NEIGHBOUR: 'it returns false'. Refute it at one input. -/
def isaAssemblesWrong : ChangeSpec := { name := "isaAssembles", fn := fun _ => fun
  | [d] => { results := [.lit (.bool false)], args := [d] }
  | _ => none }
def IsaAssemblesWrongFalsely : Prop := isaAssemblesRow.holds Tryd.pinned (OpenSpec.ofChange isaAssemblesWrong)

/- THE SECOND FORM. 'bulk': how many values and letters a reading holds, each counted each time it is reached (what is shared counts as often as it is met; a slice's spare places count too). A statement '..UptoSaid' is the law's where the arguments, and the package variables that the reading takes, are together of bulk at most 1048576: NARROWER than '..Said'. Prove '..Said' where nothing that the law and all that it calls make is longer than what came in: it says more and counts as full. Else prove '..UptoSaid'. A law counts once. -/
mutual
def uptoBulk {H : Type} : DataW H → Nat
  | .lit (.string bytes) => bytes.length + 1
  | .lit _ => 1
  | .nil => 1
  | .ptr d => uptoBulk d + 1
  | .slice elems spare => uptoBulkAll elems + uptoBulkAll spare + 1
  | .agg parts => uptoBulkAll parts + 1
  | .iface _ d => uptoBulk d + 1
  | .map entries => uptoBulkEntries entries + 1
  | .held _ => 1
def uptoBulkAll {H : Type} : List (DataW H) → Nat
  | [] => 0
  | d :: r => uptoBulk d + uptoBulkAll r
def uptoBulkEntries {H : Type} : List (Lit × DataW H) → Nat
  | [] => 0
  | x :: r => uptoBulkEntry x + uptoBulkEntries r
def uptoBulkEntry {H : Type} : Lit × DataW H → Nat
  | (.string bytes, d) => bytes.length + uptoBulk d + 1
  | (_, d) => uptoBulk d + 1
 end
def uptoSmall : (H : Type) → List (DataW H) → Bool := fun _ ds => decide (uptoBulkAll ds ≤ 1048576)
def OpenSpec.upto (s : _root_.Go.ChangeSpec) : _root_.Go.OpenSpec := { _root_.Go.OpenSpec.ofChange s with cond := some uptoSmall }

/-- 'amberlaw07.IsaAssembles', WHERE WHAT IT READS IS OF BULK AT MOST 1048576: true; the input reads as it did. -/
def isaAssemblesUptoRow : OpenClaim := { program := "ytbfagiofhakjnaadoor", sum := "e196bd71fcedf67d2e1747ed341ea2a18d5644ef4cf60e8d07756b353d5d4bb0", func := "amber/amberlaw07.IsaAssembles", spec := "isaAssembles", inPlace := ["internal/bytealg.IndexByteString", "internal/bytealg.IndexString"], named := ["unicode/utf8.first", "unicode/utf8.acceptRanges", "amber/isa.operations", "amber/amberref07.names", "internal/bytealg.MaxLen"], apart := false, laid := [("unicode/utf8.acceptRanges", laid_unicode_utf8_acceptRanges), ("amber/amberref07.names", laid_amber_amberref07_names), ("amber/isa.operations", laid_amber_isa_operations), ("unicode/utf8.first", laid_unicode_utf8_first)], narrowed := true }
def IsaAssemblesUptoSaid : Prop := isaAssemblesUptoRow.holds Tryd.pinned (OpenSpec.upto isaAssemblesSpec)

end Rows
end Go.Proofs.YtbfagiofhakjnaaDoor
