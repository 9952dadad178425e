/-
  No cell of these rows narrows 'for every input' (looked for: loops, veiled, ifaces, maps, wideKeys, modest, calm, conditions, laid).
  DERIVED. THE GIVEN ROWS OF THIS SEAT. 2 by the template 'for every input the law returns true; each argument reads behind the call as it read before'; 0 by the template 'total and deterministic' (their statements: YteloomlcaimlaabTotals.lean).
  GIVEN WITH THE SEED: the statements are not yours to turn. If you find one false, say at which input.
  Laid BY PROGRAM, IN A SANDBOX (cutbox-rows.mjs): the forced cells as the released guide's own fill.sh prints them over the translation af61f7443fff911e… (all of the seat's roots in one cut). By AI agents, Wed Nov 11 2026. No macro, syntax, notation, axiom, sorry.
-/
import Derived.Test.YteloomlcaimlaabChecked
import GoSem.Claim
import GoSem.ClaimJoined
import GoSem.ClaimMapViews
import Derived.JoinedTies
import Derived.KernelRfl
namespace Go.Proofs.Yteloomlcaimlaab
/- THE CELL 'sum', in the pinned program and in every row, IS THE sha256 OF THE DUMP (.gsa) THAT YteloomlcaimlaabProg.lean LOADS. Nothing in Lean hashes anything: it is a label: what it is worth is what the hold of that sum in a sandbox is worth. -/
noncomputable def Try.pinned : Pinned := { name := "yteloomlcaimlaab", sum := "af61f7443fff911e49b068e12750d97ec635bf8f5056ddaef454bfe89e7a8c2e", checked := Try.checked }
namespace Rows
def none {H : Type} : Left H := { results := [], args := [] }

/-- 'amberlaw20.SqueezeKeepsApart': WHATEVER THE INPUT: true; the input reads as it did. -/
def squeezeKeepsApartSpec : ChangeSpec := { name := "squeezeKeepsApart", fn := fun _ => fun
  | [d] => { results := [.lit (.bool true)], args := [d] }
  | _ => none }
def squeezeKeepsApartRow : OpenClaim := { program := "yteloomlcaimlaab", sum := "af61f7443fff911e49b068e12750d97ec635bf8f5056ddaef454bfe89e7a8c2e", func := "amber/amberlaw20.SqueezeKeepsApart", spec := "squeezeKeepsApart", apart := false }
def SqueezeKeepsApartSaid : Prop := squeezeKeepsApartRow.holds Try.pinned (OpenSpec.ofChange squeezeKeepsApartSpec)

/-- ITS FALSE NEIGHBOUR: 'it returns false'. Refute it at one input. -/
def squeezeKeepsApartWrong : ChangeSpec := { name := "squeezeKeepsApart", fn := fun _ => fun
  | [d] => { results := [.lit (.bool false)], args := [d] }
  | _ => none }
def SqueezeKeepsApartWrongFalsely : Prop := squeezeKeepsApartRow.holds Try.pinned (OpenSpec.ofChange squeezeKeepsApartWrong)

/-- 'amberlaw20.SqueezeUnpacks': WHATEVER THE INPUT: true; the input reads as it did. -/
def squeezeUnpacksSpec : ChangeSpec := { name := "squeezeUnpacks", fn := fun _ => fun
  | [d] => { results := [.lit (.bool true)], args := [d] }
  | _ => none }
def squeezeUnpacksRow : OpenClaim := { program := "yteloomlcaimlaab", sum := "af61f7443fff911e49b068e12750d97ec635bf8f5056ddaef454bfe89e7a8c2e", func := "amber/amberlaw20.SqueezeUnpacks", spec := "squeezeUnpacks", apart := false }
def SqueezeUnpacksSaid : Prop := squeezeUnpacksRow.holds Try.pinned (OpenSpec.ofChange squeezeUnpacksSpec)

/-- ITS FALSE NEIGHBOUR: 'it returns false'. Refute it at one input. -/
def squeezeUnpacksWrong : ChangeSpec := { name := "squeezeUnpacks", fn := fun _ => fun
  | [d] => { results := [.lit (.bool false)], args := [d] }
  | _ => none }
def SqueezeUnpacksWrongFalsely : Prop := squeezeUnpacksRow.holds Try.pinned (OpenSpec.ofChange squeezeUnpacksWrong)

/- THE SECOND FORM. 'bulk': how many values and letters a reading holds, each counted each time it is reached (what is shared counts as often as it is met; a slice's spare places count too). A statement '..UptoSaid' is the law's where the arguments, and the package variables that the reading takes, are together of bulk at most 1048576: NARROWER than '..Said'. Prove '..Said' where nothing that the law and all that it calls make is longer than what came in: it says more and counts as full. Else prove '..UptoSaid'. A law counts once. -/
mutual
def uptoBulk {H : Type} : DataW H → Nat
  | .lit (.string bytes) => bytes.length + 1
  | .lit _ => 1
  | .nil => 1
  | .ptr d => uptoBulk d + 1
  | .slice elems spare => uptoBulkAll elems + uptoBulkAll spare + 1
  | .agg parts => uptoBulkAll parts + 1
  | .iface _ d => uptoBulk d + 1
  | .map entries => uptoBulkEntries entries + 1
  | .held _ => 1
def uptoBulkAll {H : Type} : List (DataW H) → Nat
  | [] => 0
  | d :: r => uptoBulk d + uptoBulkAll r
def uptoBulkEntries {H : Type} : List (Lit × DataW H) → Nat
  | [] => 0
  | x :: r => uptoBulkEntry x + uptoBulkEntries r
def uptoBulkEntry {H : Type} : Lit × DataW H → Nat
  | (.string bytes, d) => bytes.length + uptoBulk d + 1
  | (_, d) => uptoBulk d + 1
 end
def uptoSmall : (H : Type) → List (DataW H) → Bool := fun _ ds => decide (uptoBulkAll ds ≤ 1048576)
def OpenSpec.upto (s : _root_.Go.ChangeSpec) : _root_.Go.OpenSpec := { _root_.Go.OpenSpec.ofChange s with cond := some uptoSmall }

/-- 'amberlaw20.SqueezeKeepsApart', WHERE WHAT IT READS IS OF BULK AT MOST 1048576: true; the input reads as it did. -/
def squeezeKeepsApartUptoRow : OpenClaim := { program := "yteloomlcaimlaab", sum := "af61f7443fff911e49b068e12750d97ec635bf8f5056ddaef454bfe89e7a8c2e", func := "amber/amberlaw20.SqueezeKeepsApart", spec := "squeezeKeepsApart", apart := false, narrowed := true }
def SqueezeKeepsApartUptoSaid : Prop := squeezeKeepsApartUptoRow.holds Try.pinned (OpenSpec.upto squeezeKeepsApartSpec)

/-- 'amberlaw20.SqueezeUnpacks', WHERE WHAT IT READS IS OF BULK AT MOST 1048576: true; the input reads as it did. -/
def squeezeUnpacksUptoRow : OpenClaim := { program := "yteloomlcaimlaab", sum := "af61f7443fff911e49b068e12750d97ec635bf8f5056ddaef454bfe89e7a8c2e", func := "amber/amberlaw20.SqueezeUnpacks", spec := "squeezeUnpacks", apart := false, narrowed := true }
def SqueezeUnpacksUptoSaid : Prop := squeezeUnpacksUptoRow.holds Try.pinned (OpenSpec.upto squeezeUnpacksSpec)

end Rows
end Go.Proofs.Yteloomlcaimlaab
