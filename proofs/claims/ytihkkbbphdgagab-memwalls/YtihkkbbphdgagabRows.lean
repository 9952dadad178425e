/-
  No cell of these rows narrows 'for every input' (looked for: loops, veiled, ifaces, maps, wideKeys, modest, calm, conditions, laid).
  DERIVED. THE GIVEN ROWS OF THIS SEAT. 3 by the template 'for every input the law returns true; each argument reads behind the call as it read before'; 0 by the template 'total and deterministic' (their statements: YtihkkbbphdgagabTotals.lean).
  GIVEN WITH THE SEED: the statements are not yours to turn. If you find one false, say at which input.
  Laid BY PROGRAM, IN A SANDBOX (cutbox-rows.mjs): the forced cells as the released guide's own fill.sh prints them over the translation d0dd03f7687a5040… (all of the seat's roots in one cut). By AI agents, Wed Nov 11 2026. No macro, syntax, notation, axiom, sorry.
-/
import Derived.Test.YtihkkbbphdgagabChecked
import GoSem.Claim
import GoSem.ClaimJoined
import GoSem.ClaimMapViews
import Derived.JoinedTies
import Derived.KernelRfl
namespace Go.Proofs.Ytihkkbbphdgagab
/- THE CELL 'sum', in the pinned program and in every row, IS THE sha256 OF THE DUMP (.gsa) THAT YtihkkbbphdgagabProg.lean LOADS. Nothing in Lean hashes anything: it is a label: what it is worth is what the hold of that sum in a sandbox is worth. -/
noncomputable def Try.pinned : Pinned := { name := "ytihkkbbphdgagab", sum := "d0dd03f7687a5040fc761fc71f14203c2220a2b7d8aa8352fe77cbf8010e4517", checked := Try.checked }
namespace Rows
def none {H : Type} : Left H := { results := [], args := [] }

/-- 'amberlaw05.MemWalls': WHATEVER THE INPUT: true; the input reads as it did. -/
def memWallsSpec : ChangeSpec := { name := "memWalls", fn := fun _ => fun
  | [d1, d2, d3] => { results := [.lit (.bool true)], args := [d1, d2, d3] }
  | _ => none }
def memWallsRow : OpenClaim := { program := "ytihkkbbphdgagab", sum := "d0dd03f7687a5040fc761fc71f14203c2220a2b7d8aa8352fe77cbf8010e4517", func := "amber/amberlaw05.MemWalls", spec := "memWalls", apart := false }
def MemWallsSaid : Prop := memWallsRow.holds Try.pinned (OpenSpec.ofChange memWallsSpec)

/-- ITS FALSE NEIGHBOUR: 'it returns false'. Refute it at one input. -/
def memWallsWrong : ChangeSpec := { name := "memWalls", fn := fun _ => fun
  | [d1, d2, d3] => { results := [.lit (.bool false)], args := [d1, d2, d3] }
  | _ => none }
def MemWallsWrongFalsely : Prop := memWallsRow.holds Try.pinned (OpenSpec.ofChange memWallsWrong)

/-- 'amberlaw05.MemTellsWrites': WHATEVER THE INPUT: true; the input reads as it did. -/
def memTellsWritesSpec : ChangeSpec := { name := "memTellsWrites", fn := fun _ => fun
  | [d] => { results := [.lit (.bool true)], args := [d] }
  | _ => none }
def memTellsWritesRow : OpenClaim := { program := "ytihkkbbphdgagab", sum := "d0dd03f7687a5040fc761fc71f14203c2220a2b7d8aa8352fe77cbf8010e4517", func := "amber/amberlaw05.MemTellsWrites", spec := "memTellsWrites", apart := false }
def MemTellsWritesSaid : Prop := memTellsWritesRow.holds Try.pinned (OpenSpec.ofChange memTellsWritesSpec)

/-- ITS FALSE NEIGHBOUR: 'it returns false'. Refute it at one input. -/
def memTellsWritesWrong : ChangeSpec := { name := "memTellsWrites", fn := fun _ => fun
  | [d] => { results := [.lit (.bool false)], args := [d] }
  | _ => none }
def MemTellsWritesWrongFalsely : Prop := memTellsWritesRow.holds Try.pinned (OpenSpec.ofChange memTellsWritesWrong)

/-- 'amberlaw05.MemPlays': WHATEVER THE INPUT: true; the input reads as it did. -/
def memPlaysSpec : ChangeSpec := { name := "memPlays", fn := fun _ => fun
  | [d1, d2, d3] => { results := [.lit (.bool true)], args := [d1, d2, d3] }
  | _ => none }
def memPlaysRow : OpenClaim := { program := "ytihkkbbphdgagab", sum := "d0dd03f7687a5040fc761fc71f14203c2220a2b7d8aa8352fe77cbf8010e4517", func := "amber/amberlaw05.MemPlays", spec := "memPlays", apart := false }
def MemPlaysSaid : Prop := memPlaysRow.holds Try.pinned (OpenSpec.ofChange memPlaysSpec)

/-- ITS FALSE NEIGHBOUR: 'it returns false'. Refute it at one input. -/
def memPlaysWrong : ChangeSpec := { name := "memPlays", fn := fun _ => fun
  | [d1, d2, d3] => { results := [.lit (.bool false)], args := [d1, d2, d3] }
  | _ => none }
def MemPlaysWrongFalsely : Prop := memPlaysRow.holds Try.pinned (OpenSpec.ofChange memPlaysWrong)

/- THE SECOND FORM. 'bulk': how many values and letters a reading holds, each counted each time it is reached (what is shared counts as often as it is met; a slice's spare places count too). A statement '..UptoSaid' is the law's where the arguments, and the package variables that the reading takes, are together of bulk at most 1048576: NARROWER than '..Said'. Prove '..Said' where nothing that the law and all that it calls make is longer than what came in: it says more and counts as full. Else prove '..UptoSaid'. A law counts once. -/
mutual
def uptoBulk {H : Type} : DataW H → Nat
  | .lit (.string bytes) => bytes.length + 1
  | .lit _ => 1
  | .nil => 1
  | .ptr d => uptoBulk d + 1
  | .slice elems spare => uptoBulkAll elems + uptoBulkAll spare + 1
  | .agg parts => uptoBulkAll parts + 1
  | .iface _ d => uptoBulk d + 1
  | .map entries => uptoBulkEntries entries + 1
  | .held _ => 1
def uptoBulkAll {H : Type} : List (DataW H) → Nat
  | [] => 0
  | d :: r => uptoBulk d + uptoBulkAll r
def uptoBulkEntries {H : Type} : List (Lit × DataW H) → Nat
  | [] => 0
  | x :: r => uptoBulkEntry x + uptoBulkEntries r
def uptoBulkEntry {H : Type} : Lit × DataW H → Nat
  | (.string bytes, d) => bytes.length + uptoBulk d + 1
  | (_, d) => uptoBulk d + 1
 end
def uptoSmall : (H : Type) → List (DataW H) → Bool := fun _ ds => decide (uptoBulkAll ds ≤ 1048576)
def OpenSpec.upto (s : _root_.Go.ChangeSpec) : _root_.Go.OpenSpec := { _root_.Go.OpenSpec.ofChange s with cond := some uptoSmall }

/-- 'amberlaw05.MemWalls', WHERE WHAT IT READS IS OF BULK AT MOST 1048576: true; the input reads as it did. -/
def memWallsUptoRow : OpenClaim := { program := "ytihkkbbphdgagab", sum := "d0dd03f7687a5040fc761fc71f14203c2220a2b7d8aa8352fe77cbf8010e4517", func := "amber/amberlaw05.MemWalls", spec := "memWalls", apart := false, narrowed := true }
def MemWallsUptoSaid : Prop := memWallsUptoRow.holds Try.pinned (OpenSpec.upto memWallsSpec)

/-- 'amberlaw05.MemTellsWrites', WHERE WHAT IT READS IS OF BULK AT MOST 1048576: true; the input reads as it did. -/
def memTellsWritesUptoRow : OpenClaim := { program := "ytihkkbbphdgagab", sum := "d0dd03f7687a5040fc761fc71f14203c2220a2b7d8aa8352fe77cbf8010e4517", func := "amber/amberlaw05.MemTellsWrites", spec := "memTellsWrites", apart := false, narrowed := true }
def MemTellsWritesUptoSaid : Prop := memTellsWritesUptoRow.holds Try.pinned (OpenSpec.upto memTellsWritesSpec)

/-- 'amberlaw05.MemPlays', WHERE WHAT IT READS IS OF BULK AT MOST 1048576: true; the input reads as it did. -/
def memPlaysUptoRow : OpenClaim := { program := "ytihkkbbphdgagab", sum := "d0dd03f7687a5040fc761fc71f14203c2220a2b7d8aa8352fe77cbf8010e4517", func := "amber/amberlaw05.MemPlays", spec := "memPlays", apart := false, narrowed := true }
def MemPlaysUptoSaid : Prop := memPlaysUptoRow.holds Try.pinned (OpenSpec.upto memPlaysSpec)

end Rows
end Go.Proofs.Ytihkkbbphdgagab
