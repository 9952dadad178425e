/-
  No cell of these rows narrows 'for every input' (looked for: loops, veiled, ifaces, maps, wideKeys, modest, calm, conditions, laid).
  DERIVED. THE GIVEN ROWS OF THIS SEAT. 6 by the template 'for every input the law returns true; each argument reads behind the call as it read before'; 0 by the template 'total and deterministic' (their statements: YtihkkbbphdgagaaTotals.lean).
  GIVEN WITH THE SEED: the statements are not yours to turn. If you find one false, say at which input.
  Laid BY PROGRAM, IN A SANDBOX (cutbox-rows.mjs): the forced cells as the released guide's own fill.sh prints them over the translation cd18e1addc35bab3… (all of the seat's roots in one cut). By AI agents, Wed Nov 11 2026. No macro, syntax, notation, axiom, sorry.
-/
import Derived.Test.YtihkkbbphdgagaaChecked
import GoSem.Claim
import GoSem.ClaimJoined
import GoSem.ClaimMapViews
import Derived.JoinedTies
import Derived.KernelRfl
namespace Go.Proofs.Ytihkkbbphdgagaa
/- THE CELL 'sum', in the pinned program and in every row, IS THE sha256 OF THE DUMP (.gsa) THAT YtihkkbbphdgagaaProg.lean LOADS. Nothing in Lean hashes anything: it is a label: what it is worth is what the hold of that sum in a sandbox is worth. -/
noncomputable def Try.pinned : Pinned := { name := "ytihkkbbphdgagaa", sum := "cd18e1addc35bab33d9e7ba8e9ec42f9836270c94148ea6e09c41522bf9c131f", checked := Try.checked }
namespace Rows
def none {H : Type} : Left H := { results := [], args := [] }

/-- 'amberlaw05.MemPacksBack': WHATEVER THE INPUT: true; the input reads as it did. -/
def memPacksBackSpec : ChangeSpec := { name := "memPacksBack", fn := fun _ => fun
  | [d1, d2] => { results := [.lit (.bool true)], args := [d1, d2] }
  | _ => none }
def memPacksBackRow : OpenClaim := { program := "ytihkkbbphdgagaa", sum := "cd18e1addc35bab33d9e7ba8e9ec42f9836270c94148ea6e09c41522bf9c131f", func := "amber/amberlaw05.MemPacksBack", spec := "memPacksBack", apart := false }
def MemPacksBackSaid : Prop := memPacksBackRow.holds Try.pinned (OpenSpec.ofChange memPacksBackSpec)

/-- ITS FALSE NEIGHBOUR: 'it returns false'. Refute it at one input. -/
def memPacksBackWrong : ChangeSpec := { name := "memPacksBack", fn := fun _ => fun
  | [d1, d2] => { results := [.lit (.bool false)], args := [d1, d2] }
  | _ => none }
def MemPacksBackWrongFalsely : Prop := memPacksBackRow.holds Try.pinned (OpenSpec.ofChange memPacksBackWrong)

/-- 'amberlaw05.MemPacks': WHATEVER THE INPUT: true; the input reads as it did. -/
def memPacksSpec : ChangeSpec := { name := "memPacks", fn := fun _ => fun
  | [d1, d2] => { results := [.lit (.bool true)], args := [d1, d2] }
  | _ => none }
def memPacksRow : OpenClaim := { program := "ytihkkbbphdgagaa", sum := "cd18e1addc35bab33d9e7ba8e9ec42f9836270c94148ea6e09c41522bf9c131f", func := "amber/amberlaw05.MemPacks", spec := "memPacks", apart := false }
def MemPacksSaid : Prop := memPacksRow.holds Try.pinned (OpenSpec.ofChange memPacksSpec)

/-- ITS FALSE NEIGHBOUR: 'it returns false'. Refute it at one input. -/
def memPacksWrong : ChangeSpec := { name := "memPacks", fn := fun _ => fun
  | [d1, d2] => { results := [.lit (.bool false)], args := [d1, d2] }
  | _ => none }
def MemPacksWrongFalsely : Prop := memPacksRow.holds Try.pinned (OpenSpec.ofChange memPacksWrong)

/-- 'amberlaw05.MemTellsNewLists': WHATEVER THE INPUT: true; the input reads as it did. -/
def memTellsNewListsSpec : ChangeSpec := { name := "memTellsNewLists", fn := fun _ => fun
  | [d] => { results := [.lit (.bool true)], args := [d] }
  | _ => none }
def memTellsNewListsRow : OpenClaim := { program := "ytihkkbbphdgagaa", sum := "cd18e1addc35bab33d9e7ba8e9ec42f9836270c94148ea6e09c41522bf9c131f", func := "amber/amberlaw05.MemTellsNewLists", spec := "memTellsNewLists", apart := false }
def MemTellsNewListsSaid : Prop := memTellsNewListsRow.holds Try.pinned (OpenSpec.ofChange memTellsNewListsSpec)

/-- ITS FALSE NEIGHBOUR: 'it returns false'. Refute it at one input. -/
def memTellsNewListsWrong : ChangeSpec := { name := "memTellsNewLists", fn := fun _ => fun
  | [d] => { results := [.lit (.bool false)], args := [d] }
  | _ => none }
def MemTellsNewListsWrongFalsely : Prop := memTellsNewListsRow.holds Try.pinned (OpenSpec.ofChange memTellsNewListsWrong)

/-- 'amberlaw05.MemCounts': WHATEVER THE INPUT: true; the input reads as it did. -/
def memCountsSpec : ChangeSpec := { name := "memCounts", fn := fun _ => fun
  | [d1, d2] => { results := [.lit (.bool true)], args := [d1, d2] }
  | _ => none }
def memCountsRow : OpenClaim := { program := "ytihkkbbphdgagaa", sum := "cd18e1addc35bab33d9e7ba8e9ec42f9836270c94148ea6e09c41522bf9c131f", func := "amber/amberlaw05.MemCounts", spec := "memCounts", apart := false }
def MemCountsSaid : Prop := memCountsRow.holds Try.pinned (OpenSpec.ofChange memCountsSpec)

/-- ITS FALSE NEIGHBOUR: 'it returns false'. Refute it at one input. -/
def memCountsWrong : ChangeSpec := { name := "memCounts", fn := fun _ => fun
  | [d1, d2] => { results := [.lit (.bool false)], args := [d1, d2] }
  | _ => none }
def MemCountsWrongFalsely : Prop := memCountsRow.holds Try.pinned (OpenSpec.ofChange memCountsWrong)

/-- 'amberlaw05.MemCopies': WHATEVER THE INPUT: true; the input reads as it did. -/
def memCopiesSpec : ChangeSpec := { name := "memCopies", fn := fun _ => fun
  | [d1, d2, d3] => { results := [.lit (.bool true)], args := [d1, d2, d3] }
  | _ => none }
def memCopiesRow : OpenClaim := { program := "ytihkkbbphdgagaa", sum := "cd18e1addc35bab33d9e7ba8e9ec42f9836270c94148ea6e09c41522bf9c131f", func := "amber/amberlaw05.MemCopies", spec := "memCopies", apart := false }
def MemCopiesSaid : Prop := memCopiesRow.holds Try.pinned (OpenSpec.ofChange memCopiesSpec)

/-- ITS FALSE NEIGHBOUR: 'it returns false'. Refute it at one input. -/
def memCopiesWrong : ChangeSpec := { name := "memCopies", fn := fun _ => fun
  | [d1, d2, d3] => { results := [.lit (.bool false)], args := [d1, d2, d3] }
  | _ => none }
def MemCopiesWrongFalsely : Prop := memCopiesRow.holds Try.pinned (OpenSpec.ofChange memCopiesWrong)

/-- 'amberlaw05.MemGivesFresh': WHATEVER THE INPUT: true; the input reads as it did. -/
def memGivesFreshSpec : ChangeSpec := { name := "memGivesFresh", fn := fun _ => fun
  | [d1, d2, d3] => { results := [.lit (.bool true)], args := [d1, d2, d3] }
  | _ => none }
def memGivesFreshRow : OpenClaim := { program := "ytihkkbbphdgagaa", sum := "cd18e1addc35bab33d9e7ba8e9ec42f9836270c94148ea6e09c41522bf9c131f", func := "amber/amberlaw05.MemGivesFresh", spec := "memGivesFresh", apart := false }
def MemGivesFreshSaid : Prop := memGivesFreshRow.holds Try.pinned (OpenSpec.ofChange memGivesFreshSpec)

/-- ITS FALSE NEIGHBOUR: 'it returns false'. Refute it at one input. -/
def memGivesFreshWrong : ChangeSpec := { name := "memGivesFresh", fn := fun _ => fun
  | [d1, d2, d3] => { results := [.lit (.bool false)], args := [d1, d2, d3] }
  | _ => none }
def MemGivesFreshWrongFalsely : Prop := memGivesFreshRow.holds Try.pinned (OpenSpec.ofChange memGivesFreshWrong)

/- THE SECOND FORM. 'bulk': how many values and letters a reading holds, each counted each time it is reached (what is shared counts as often as it is met; a slice's spare places count too). A statement '..UptoSaid' is the law's where the arguments, and the package variables that the reading takes, are together of bulk at most 1048576: NARROWER than '..Said'. Prove '..Said' where nothing that the law and all that it calls make is longer than what came in: it says more and counts as full. Else prove '..UptoSaid'. A law counts once. -/
mutual
def uptoBulk {H : Type} : DataW H → Nat
  | .lit (.string bytes) => bytes.length + 1
  | .lit _ => 1
  | .nil => 1
  | .ptr d => uptoBulk d + 1
  | .slice elems spare => uptoBulkAll elems + uptoBulkAll spare + 1
  | .agg parts => uptoBulkAll parts + 1
  | .iface _ d => uptoBulk d + 1
  | .map entries => uptoBulkEntries entries + 1
  | .held _ => 1
def uptoBulkAll {H : Type} : List (DataW H) → Nat
  | [] => 0
  | d :: r => uptoBulk d + uptoBulkAll r
def uptoBulkEntries {H : Type} : List (Lit × DataW H) → Nat
  | [] => 0
  | x :: r => uptoBulkEntry x + uptoBulkEntries r
def uptoBulkEntry {H : Type} : Lit × DataW H → Nat
  | (.string bytes, d) => bytes.length + uptoBulk d + 1
  | (_, d) => uptoBulk d + 1
 end
def uptoSmall : (H : Type) → List (DataW H) → Bool := fun _ ds => decide (uptoBulkAll ds ≤ 1048576)
def OpenSpec.upto (s : _root_.Go.ChangeSpec) : _root_.Go.OpenSpec := { _root_.Go.OpenSpec.ofChange s with cond := some uptoSmall }

/-- 'amberlaw05.MemPacksBack', WHERE WHAT IT READS IS OF BULK AT MOST 1048576: true; the input reads as it did. -/
def memPacksBackUptoRow : OpenClaim := { program := "ytihkkbbphdgagaa", sum := "cd18e1addc35bab33d9e7ba8e9ec42f9836270c94148ea6e09c41522bf9c131f", func := "amber/amberlaw05.MemPacksBack", spec := "memPacksBack", apart := false, narrowed := true }
def MemPacksBackUptoSaid : Prop := memPacksBackUptoRow.holds Try.pinned (OpenSpec.upto memPacksBackSpec)

/-- 'amberlaw05.MemPacks', WHERE WHAT IT READS IS OF BULK AT MOST 1048576: true; the input reads as it did. -/
def memPacksUptoRow : OpenClaim := { program := "ytihkkbbphdgagaa", sum := "cd18e1addc35bab33d9e7ba8e9ec42f9836270c94148ea6e09c41522bf9c131f", func := "amber/amberlaw05.MemPacks", spec := "memPacks", apart := false, narrowed := true }
def MemPacksUptoSaid : Prop := memPacksUptoRow.holds Try.pinned (OpenSpec.upto memPacksSpec)

/-- 'amberlaw05.MemTellsNewLists', WHERE WHAT IT READS IS OF BULK AT MOST 1048576: true; the input reads as it did. -/
def memTellsNewListsUptoRow : OpenClaim := { program := "ytihkkbbphdgagaa", sum := "cd18e1addc35bab33d9e7ba8e9ec42f9836270c94148ea6e09c41522bf9c131f", func := "amber/amberlaw05.MemTellsNewLists", spec := "memTellsNewLists", apart := false, narrowed := true }
def MemTellsNewListsUptoSaid : Prop := memTellsNewListsUptoRow.holds Try.pinned (OpenSpec.upto memTellsNewListsSpec)

/-- 'amberlaw05.MemCounts', WHERE WHAT IT READS IS OF BULK AT MOST 1048576: true; the input reads as it did. -/
def memCountsUptoRow : OpenClaim := { program := "ytihkkbbphdgagaa", sum := "cd18e1addc35bab33d9e7ba8e9ec42f9836270c94148ea6e09c41522bf9c131f", func := "amber/amberlaw05.MemCounts", spec := "memCounts", apart := false, narrowed := true }
def MemCountsUptoSaid : Prop := memCountsUptoRow.holds Try.pinned (OpenSpec.upto memCountsSpec)

/-- 'amberlaw05.MemCopies', WHERE WHAT IT READS IS OF BULK AT MOST 1048576: true; the input reads as it did. -/
def memCopiesUptoRow : OpenClaim := { program := "ytihkkbbphdgagaa", sum := "cd18e1addc35bab33d9e7ba8e9ec42f9836270c94148ea6e09c41522bf9c131f", func := "amber/amberlaw05.MemCopies", spec := "memCopies", apart := false, narrowed := true }
def MemCopiesUptoSaid : Prop := memCopiesUptoRow.holds Try.pinned (OpenSpec.upto memCopiesSpec)

/-- 'amberlaw05.MemGivesFresh', WHERE WHAT IT READS IS OF BULK AT MOST 1048576: true; the input reads as it did. -/
def memGivesFreshUptoRow : OpenClaim := { program := "ytihkkbbphdgagaa", sum := "cd18e1addc35bab33d9e7ba8e9ec42f9836270c94148ea6e09c41522bf9c131f", func := "amber/amberlaw05.MemGivesFresh", spec := "memGivesFresh", apart := false, narrowed := true }
def MemGivesFreshUptoSaid : Prop := memGivesFreshUptoRow.holds Try.pinned (OpenSpec.upto memGivesFreshSpec)

end Rows
end Go.Proofs.Ytihkkbbphdgagaa
