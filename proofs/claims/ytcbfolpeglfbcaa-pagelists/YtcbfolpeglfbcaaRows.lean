/-
  No cell of these rows narrows 'for every input' (looked for: loops, veiled, ifaces, maps, wideKeys, modest, calm, conditions, laid).
  DERIVED. THE GIVEN ROWS OF THIS SEAT. 6 by the template 'for every input the law returns true; each argument reads behind the call as it read before'; 0 by the template 'total and deterministic' (their statements: YtcbfolpeglfbcaaTotals.lean).
  GIVEN WITH THE SEED: the statements are not yours to turn. If you find one false, say at which input.
  Laid BY PROGRAM, IN A SANDBOX (cutbox-rows.mjs): the forced cells as the released guide's own fill.sh prints them over the translation 8541e80a656a8dbd… (all of the seat's roots in one cut). By AI agents, Wed Nov 11 2026. No macro, syntax, notation, axiom, sorry.
-/
import Derived.Test.YtcbfolpeglfbcaaChecked
import GoSem.Claim
import GoSem.ClaimJoined
import GoSem.ClaimMapViews
import Derived.JoinedTies
import Derived.KernelRfl
namespace Go.Proofs.Ytcbfolpeglfbcaa
/- THE CELL 'sum', in the pinned program and in every row, IS THE sha256 OF THE DUMP (.gsa) THAT YtcbfolpeglfbcaaProg.lean LOADS. Nothing in Lean hashes anything: it is a label: what it is worth is what the hold of that sum in a sandbox is worth. -/
noncomputable def Try.pinned : Pinned := { name := "ytcbfolpeglfbcaa", sum := "8541e80a656a8dbd5387139de37aec0ed2ef8f890d945192b1070589c1381235", checked := Try.checked }
namespace Rows
def none {H : Type} : Left H := { results := [], args := [] }

/-- 'amberlaw06.PageEqual': WHATEVER THE INPUT: true; the input reads as it did. -/
def pageEqualSpec : ChangeSpec := { name := "pageEqual", fn := fun _ => fun
  | [d1, d2] => { results := [.lit (.bool true)], args := [d1, d2] }
  | _ => none }
def pageEqualRow : OpenClaim := { program := "ytcbfolpeglfbcaa", sum := "8541e80a656a8dbd5387139de37aec0ed2ef8f890d945192b1070589c1381235", func := "amber/amberlaw06.PageEqual", spec := "pageEqual", apart := false }
def PageEqualSaid : Prop := pageEqualRow.holds Try.pinned (OpenSpec.ofChange pageEqualSpec)

/-- ITS FALSE NEIGHBOUR: 'it returns false'. Refute it at one input. -/
def pageEqualWrong : ChangeSpec := { name := "pageEqual", fn := fun _ => fun
  | [d1, d2] => { results := [.lit (.bool false)], args := [d1, d2] }
  | _ => none }
def PageEqualWrongFalsely : Prop := pageEqualRow.holds Try.pinned (OpenSpec.ofChange pageEqualWrong)

/-- 'amberlaw06.PageForgets': WHATEVER THE INPUT: true; the input reads as it did. -/
def pageForgetsSpec : ChangeSpec := { name := "pageForgets", fn := fun _ => fun
  | [d1, d2] => { results := [.lit (.bool true)], args := [d1, d2] }
  | _ => none }
def pageForgetsRow : OpenClaim := { program := "ytcbfolpeglfbcaa", sum := "8541e80a656a8dbd5387139de37aec0ed2ef8f890d945192b1070589c1381235", func := "amber/amberlaw06.PageForgets", spec := "pageForgets", apart := false }
def PageForgetsSaid : Prop := pageForgetsRow.holds Try.pinned (OpenSpec.ofChange pageForgetsSpec)

/-- ITS FALSE NEIGHBOUR: 'it returns false'. Refute it at one input. -/
def pageForgetsWrong : ChangeSpec := { name := "pageForgets", fn := fun _ => fun
  | [d1, d2] => { results := [.lit (.bool false)], args := [d1, d2] }
  | _ => none }
def PageForgetsWrongFalsely : Prop := pageForgetsRow.holds Try.pinned (OpenSpec.ofChange pageForgetsWrong)

/-- 'amberlaw06.PageFound': WHATEVER THE INPUT: true; the input reads as it did. -/
def pageFoundSpec : ChangeSpec := { name := "pageFound", fn := fun _ => fun
  | [d] => { results := [.lit (.bool true)], args := [d] }
  | _ => none }
def pageFoundRow : OpenClaim := { program := "ytcbfolpeglfbcaa", sum := "8541e80a656a8dbd5387139de37aec0ed2ef8f890d945192b1070589c1381235", func := "amber/amberlaw06.PageFound", spec := "pageFound", apart := false }
def PageFoundSaid : Prop := pageFoundRow.holds Try.pinned (OpenSpec.ofChange pageFoundSpec)

/-- ITS FALSE NEIGHBOUR: 'it returns false'. Refute it at one input. -/
def pageFoundWrong : ChangeSpec := { name := "pageFound", fn := fun _ => fun
  | [d] => { results := [.lit (.bool false)], args := [d] }
  | _ => none }
def PageFoundWrongFalsely : Prop := pageFoundRow.holds Try.pinned (OpenSpec.ofChange pageFoundWrong)

/-- 'amberlaw06.PageKeeps': WHATEVER THE INPUT: true; the input reads as it did. -/
def pageKeepsSpec : ChangeSpec := { name := "pageKeeps", fn := fun _ => fun
  | [d] => { results := [.lit (.bool true)], args := [d] }
  | _ => none }
def pageKeepsRow : OpenClaim := { program := "ytcbfolpeglfbcaa", sum := "8541e80a656a8dbd5387139de37aec0ed2ef8f890d945192b1070589c1381235", func := "amber/amberlaw06.PageKeeps", spec := "pageKeeps", apart := false }
def PageKeepsSaid : Prop := pageKeepsRow.holds Try.pinned (OpenSpec.ofChange pageKeepsSpec)

/-- ITS FALSE NEIGHBOUR: 'it returns false'. Refute it at one input. -/
def pageKeepsWrong : ChangeSpec := { name := "pageKeeps", fn := fun _ => fun
  | [d] => { results := [.lit (.bool false)], args := [d] }
  | _ => none }
def PageKeepsWrongFalsely : Prop := pageKeepsRow.holds Try.pinned (OpenSpec.ofChange pageKeepsWrong)

/-- 'amberlaw06.PageLoads': WHATEVER THE INPUT: true; the input reads as it did. -/
def pageLoadsSpec : ChangeSpec := { name := "pageLoads", fn := fun _ => fun
  | [d1, d2] => { results := [.lit (.bool true)], args := [d1, d2] }
  | _ => none }
def pageLoadsRow : OpenClaim := { program := "ytcbfolpeglfbcaa", sum := "8541e80a656a8dbd5387139de37aec0ed2ef8f890d945192b1070589c1381235", func := "amber/amberlaw06.PageLoads", spec := "pageLoads", apart := false }
def PageLoadsSaid : Prop := pageLoadsRow.holds Try.pinned (OpenSpec.ofChange pageLoadsSpec)

/-- ITS FALSE NEIGHBOUR: 'it returns false'. Refute it at one input. -/
def pageLoadsWrong : ChangeSpec := { name := "pageLoads", fn := fun _ => fun
  | [d1, d2] => { results := [.lit (.bool false)], args := [d1, d2] }
  | _ => none }
def PageLoadsWrongFalsely : Prop := pageLoadsRow.holds Try.pinned (OpenSpec.ofChange pageLoadsWrong)

/-- 'amberlaw06.PageLists': WHATEVER THE INPUT: true; the input reads as it did. -/
def pageListsSpec : ChangeSpec := { name := "pageLists", fn := fun _ => fun
  | [d1, d2] => { results := [.lit (.bool true)], args := [d1, d2] }
  | _ => none }
def pageListsRow : OpenClaim := { program := "ytcbfolpeglfbcaa", sum := "8541e80a656a8dbd5387139de37aec0ed2ef8f890d945192b1070589c1381235", func := "amber/amberlaw06.PageLists", spec := "pageLists", apart := false }
def PageListsSaid : Prop := pageListsRow.holds Try.pinned (OpenSpec.ofChange pageListsSpec)

/-- ITS FALSE NEIGHBOUR: 'it returns false'. Refute it at one input. -/
def pageListsWrong : ChangeSpec := { name := "pageLists", fn := fun _ => fun
  | [d1, d2] => { results := [.lit (.bool false)], args := [d1, d2] }
  | _ => none }
def PageListsWrongFalsely : Prop := pageListsRow.holds Try.pinned (OpenSpec.ofChange pageListsWrong)

/- THE SECOND FORM. 'bulk': how many values and letters a reading holds, each counted each time it is reached (what is shared counts as often as it is met; a slice's spare places count too). A statement '..UptoSaid' is the law's where the arguments, and the package variables that the reading takes, are together of bulk at most 1048576: NARROWER than '..Said'. Prove '..Said' where nothing that the law and all that it calls make is longer than what came in: it says more and counts as full. Else prove '..UptoSaid'. A law counts once. -/
mutual
def uptoBulk {H : Type} : DataW H → Nat
  | .lit (.string bytes) => bytes.length + 1
  | .lit _ => 1
  | .nil => 1
  | .ptr d => uptoBulk d + 1
  | .slice elems spare => uptoBulkAll elems + uptoBulkAll spare + 1
  | .agg parts => uptoBulkAll parts + 1
  | .iface _ d => uptoBulk d + 1
  | .map entries => uptoBulkEntries entries + 1
  | .held _ => 1
def uptoBulkAll {H : Type} : List (DataW H) → Nat
  | [] => 0
  | d :: r => uptoBulk d + uptoBulkAll r
def uptoBulkEntries {H : Type} : List (Lit × DataW H) → Nat
  | [] => 0
  | x :: r => uptoBulkEntry x + uptoBulkEntries r
def uptoBulkEntry {H : Type} : Lit × DataW H → Nat
  | (.string bytes, d) => bytes.length + uptoBulk d + 1
  | (_, d) => uptoBulk d + 1
 end
def uptoSmall : (H : Type) → List (DataW H) → Bool := fun _ ds => decide (uptoBulkAll ds ≤ 1048576)
def OpenSpec.upto (s : _root_.Go.ChangeSpec) : _root_.Go.OpenSpec := { _root_.Go.OpenSpec.ofChange s with cond := some uptoSmall }

/-- 'amberlaw06.PageEqual', WHERE WHAT IT READS IS OF BULK AT MOST 1048576: true; the input reads as it did. -/
def pageEqualUptoRow : OpenClaim := { program := "ytcbfolpeglfbcaa", sum := "8541e80a656a8dbd5387139de37aec0ed2ef8f890d945192b1070589c1381235", func := "amber/amberlaw06.PageEqual", spec := "pageEqual", apart := false, narrowed := true }
def PageEqualUptoSaid : Prop := pageEqualUptoRow.holds Try.pinned (OpenSpec.upto pageEqualSpec)

/-- 'amberlaw06.PageForgets', WHERE WHAT IT READS IS OF BULK AT MOST 1048576: true; the input reads as it did. -/
def pageForgetsUptoRow : OpenClaim := { program := "ytcbfolpeglfbcaa", sum := "8541e80a656a8dbd5387139de37aec0ed2ef8f890d945192b1070589c1381235", func := "amber/amberlaw06.PageForgets", spec := "pageForgets", apart := false, narrowed := true }
def PageForgetsUptoSaid : Prop := pageForgetsUptoRow.holds Try.pinned (OpenSpec.upto pageForgetsSpec)

/-- 'amberlaw06.PageFound', WHERE WHAT IT READS IS OF BULK AT MOST 1048576: true; the input reads as it did. -/
def pageFoundUptoRow : OpenClaim := { program := "ytcbfolpeglfbcaa", sum := "8541e80a656a8dbd5387139de37aec0ed2ef8f890d945192b1070589c1381235", func := "amber/amberlaw06.PageFound", spec := "pageFound", apart := false, narrowed := true }
def PageFoundUptoSaid : Prop := pageFoundUptoRow.holds Try.pinned (OpenSpec.upto pageFoundSpec)

/-- 'amberlaw06.PageKeeps', WHERE WHAT IT READS IS OF BULK AT MOST 1048576: true; the input reads as it did. -/
def pageKeepsUptoRow : OpenClaim := { program := "ytcbfolpeglfbcaa", sum := "8541e80a656a8dbd5387139de37aec0ed2ef8f890d945192b1070589c1381235", func := "amber/amberlaw06.PageKeeps", spec := "pageKeeps", apart := false, narrowed := true }
def PageKeepsUptoSaid : Prop := pageKeepsUptoRow.holds Try.pinned (OpenSpec.upto pageKeepsSpec)

/-- 'amberlaw06.PageLoads', WHERE WHAT IT READS IS OF BULK AT MOST 1048576: true; the input reads as it did. -/
def pageLoadsUptoRow : OpenClaim := { program := "ytcbfolpeglfbcaa", sum := "8541e80a656a8dbd5387139de37aec0ed2ef8f890d945192b1070589c1381235", func := "amber/amberlaw06.PageLoads", spec := "pageLoads", apart := false, narrowed := true }
def PageLoadsUptoSaid : Prop := pageLoadsUptoRow.holds Try.pinned (OpenSpec.upto pageLoadsSpec)

/-- 'amberlaw06.PageLists', WHERE WHAT IT READS IS OF BULK AT MOST 1048576: true; the input reads as it did. -/
def pageListsUptoRow : OpenClaim := { program := "ytcbfolpeglfbcaa", sum := "8541e80a656a8dbd5387139de37aec0ed2ef8f890d945192b1070589c1381235", func := "amber/amberlaw06.PageLists", spec := "pageLists", apart := false, narrowed := true }
def PageListsUptoSaid : Prop := pageListsUptoRow.holds Try.pinned (OpenSpec.upto pageListsSpec)

end Rows
end Go.Proofs.Ytcbfolpeglfbcaa
