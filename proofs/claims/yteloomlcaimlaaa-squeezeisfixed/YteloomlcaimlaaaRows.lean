/-
  No cell of these rows narrows 'for every input' (looked for: loops, veiled, ifaces, maps, wideKeys, modest, calm, conditions, laid).
  DERIVED. THE GIVEN ROWS OF THIS SEAT. 6 by the template 'for every input the law returns true; each argument reads behind the call as it read before'; 0 by the template 'total and deterministic' (their statements: YteloomlcaimlaaaTotals.lean).
  GIVEN WITH THE SEED: the statements are not yours to turn. If you find one false, say at which input.
  Laid BY PROGRAM, IN A SANDBOX (cutbox-rows.mjs): the forced cells as the released guide's own fill.sh prints them over the translation 473d7cdece6211f0… (all of the seat's roots in one cut). By AI agents, Wed Nov 11 2026. No macro, syntax, notation, axiom, sorry.
-/
import Derived.Test.YteloomlcaimlaaaChecked
import GoSem.Claim
import GoSem.ClaimJoined
import GoSem.ClaimMapViews
import Derived.JoinedTies
import Derived.KernelRfl
namespace Go.Proofs.Yteloomlcaimlaaa
/- THE CELL 'sum', in the pinned program and in every row, IS THE sha256 OF THE DUMP (.gsa) THAT YteloomlcaimlaaaProg.lean LOADS. Nothing in Lean hashes anything: it is a label: what it is worth is what the hold of that sum in a sandbox is worth. -/
noncomputable def Try.pinned : Pinned := { name := "yteloomlcaimlaaa", sum := "473d7cdece6211f0d87929d2d69885a4de2c2ef7468cf40f263bd56f40bf72c3", checked := Try.checked }
namespace Rows
def none {H : Type} : Left H := { results := [], args := [] }

/-- 'amberlaw20.SqueezeStaysSmall': WHATEVER THE INPUT: true; the input reads as it did. -/
def squeezeStaysSmallSpec : ChangeSpec := { name := "squeezeStaysSmall", fn := fun _ => fun
  | [d1, d2, d3] => { results := [.lit (.bool true)], args := [d1, d2, d3] }
  | _ => none }
def squeezeStaysSmallRow : OpenClaim := { program := "yteloomlcaimlaaa", sum := "473d7cdece6211f0d87929d2d69885a4de2c2ef7468cf40f263bd56f40bf72c3", func := "amber/amberlaw20.SqueezeStaysSmall", spec := "squeezeStaysSmall", apart := false }
def SqueezeStaysSmallSaid : Prop := squeezeStaysSmallRow.holds Try.pinned (OpenSpec.ofChange squeezeStaysSmallSpec)

/-- ITS FALSE NEIGHBOUR: 'it returns false'. Refute it at one input. -/
def squeezeStaysSmallWrong : ChangeSpec := { name := "squeezeStaysSmall", fn := fun _ => fun
  | [d1, d2, d3] => { results := [.lit (.bool false)], args := [d1, d2, d3] }
  | _ => none }
def SqueezeStaysSmallWrongFalsely : Prop := squeezeStaysSmallRow.holds Try.pinned (OpenSpec.ofChange squeezeStaysSmallWrong)

/-- 'amberlaw20.SqueezeIsFixed': WHATEVER THE INPUT: true; the input reads as it did. -/
def squeezeIsFixedSpec : ChangeSpec := { name := "squeezeIsFixed", fn := fun _ => fun
  | [d1, d2, d3] => { results := [.lit (.bool true)], args := [d1, d2, d3] }
  | _ => none }
def squeezeIsFixedRow : OpenClaim := { program := "yteloomlcaimlaaa", sum := "473d7cdece6211f0d87929d2d69885a4de2c2ef7468cf40f263bd56f40bf72c3", func := "amber/amberlaw20.SqueezeIsFixed", spec := "squeezeIsFixed", apart := false }
def SqueezeIsFixedSaid : Prop := squeezeIsFixedRow.holds Try.pinned (OpenSpec.ofChange squeezeIsFixedSpec)

/-- ITS FALSE NEIGHBOUR: 'it returns false'. Refute it at one input. -/
def squeezeIsFixedWrong : ChangeSpec := { name := "squeezeIsFixed", fn := fun _ => fun
  | [d1, d2, d3] => { results := [.lit (.bool false)], args := [d1, d2, d3] }
  | _ => none }
def SqueezeIsFixedWrongFalsely : Prop := squeezeIsFixedRow.holds Try.pinned (OpenSpec.ofChange squeezeIsFixedWrong)

/-- 'amberlaw20.SqueezeTooMuch': WHATEVER THE INPUT: true; the input reads as it did. -/
def squeezeTooMuchSpec : ChangeSpec := { name := "squeezeTooMuch", fn := fun _ => fun
  | [d1, d2, d3] => { results := [.lit (.bool true)], args := [d1, d2, d3] }
  | _ => none }
def squeezeTooMuchRow : OpenClaim := { program := "yteloomlcaimlaaa", sum := "473d7cdece6211f0d87929d2d69885a4de2c2ef7468cf40f263bd56f40bf72c3", func := "amber/amberlaw20.SqueezeTooMuch", spec := "squeezeTooMuch", apart := false }
def SqueezeTooMuchSaid : Prop := squeezeTooMuchRow.holds Try.pinned (OpenSpec.ofChange squeezeTooMuchSpec)

/-- ITS FALSE NEIGHBOUR: 'it returns false'. Refute it at one input. -/
def squeezeTooMuchWrong : ChangeSpec := { name := "squeezeTooMuch", fn := fun _ => fun
  | [d1, d2, d3] => { results := [.lit (.bool false)], args := [d1, d2, d3] }
  | _ => none }
def SqueezeTooMuchWrongFalsely : Prop := squeezeTooMuchRow.holds Try.pinned (OpenSpec.ofChange squeezeTooMuchWrong)

/-- 'amberlaw20.SqueezePacks': WHATEVER THE INPUT: true; the input reads as it did. -/
def squeezePacksSpec : ChangeSpec := { name := "squeezePacks", fn := fun _ => fun
  | [d] => { results := [.lit (.bool true)], args := [d] }
  | _ => none }
def squeezePacksRow : OpenClaim := { program := "yteloomlcaimlaaa", sum := "473d7cdece6211f0d87929d2d69885a4de2c2ef7468cf40f263bd56f40bf72c3", func := "amber/amberlaw20.SqueezePacks", spec := "squeezePacks", apart := false }
def SqueezePacksSaid : Prop := squeezePacksRow.holds Try.pinned (OpenSpec.ofChange squeezePacksSpec)

/-- ITS FALSE NEIGHBOUR: 'it returns false'. Refute it at one input. -/
def squeezePacksWrong : ChangeSpec := { name := "squeezePacks", fn := fun _ => fun
  | [d] => { results := [.lit (.bool false)], args := [d] }
  | _ => none }
def SqueezePacksWrongFalsely : Prop := squeezePacksRow.holds Try.pinned (OpenSpec.ofChange squeezePacksWrong)

/-- 'amberlaw20.SqueezeGivesBack': WHATEVER THE INPUT: true; the input reads as it did. -/
def squeezeGivesBackSpec : ChangeSpec := { name := "squeezeGivesBack", fn := fun _ => fun
  | [d1, d2, d3] => { results := [.lit (.bool true)], args := [d1, d2, d3] }
  | _ => none }
def squeezeGivesBackRow : OpenClaim := { program := "yteloomlcaimlaaa", sum := "473d7cdece6211f0d87929d2d69885a4de2c2ef7468cf40f263bd56f40bf72c3", func := "amber/amberlaw20.SqueezeGivesBack", spec := "squeezeGivesBack", apart := false }
def SqueezeGivesBackSaid : Prop := squeezeGivesBackRow.holds Try.pinned (OpenSpec.ofChange squeezeGivesBackSpec)

/-- ITS FALSE NEIGHBOUR: 'it returns false'. Refute it at one input. -/
def squeezeGivesBackWrong : ChangeSpec := { name := "squeezeGivesBack", fn := fun _ => fun
  | [d1, d2, d3] => { results := [.lit (.bool false)], args := [d1, d2, d3] }
  | _ => none }
def SqueezeGivesBackWrongFalsely : Prop := squeezeGivesBackRow.holds Try.pinned (OpenSpec.ofChange squeezeGivesBackWrong)

/-- 'amberlaw20.SqueezeIsGreedy': WHATEVER THE INPUT: true; the input reads as it did. -/
def squeezeIsGreedySpec : ChangeSpec := { name := "squeezeIsGreedy", fn := fun _ => fun
  | [d] => { results := [.lit (.bool true)], args := [d] }
  | _ => none }
def squeezeIsGreedyRow : OpenClaim := { program := "yteloomlcaimlaaa", sum := "473d7cdece6211f0d87929d2d69885a4de2c2ef7468cf40f263bd56f40bf72c3", func := "amber/amberlaw20.SqueezeIsGreedy", spec := "squeezeIsGreedy", apart := false }
def SqueezeIsGreedySaid : Prop := squeezeIsGreedyRow.holds Try.pinned (OpenSpec.ofChange squeezeIsGreedySpec)

/-- ITS FALSE NEIGHBOUR: 'it returns false'. Refute it at one input. -/
def squeezeIsGreedyWrong : ChangeSpec := { name := "squeezeIsGreedy", fn := fun _ => fun
  | [d] => { results := [.lit (.bool false)], args := [d] }
  | _ => none }
def SqueezeIsGreedyWrongFalsely : Prop := squeezeIsGreedyRow.holds Try.pinned (OpenSpec.ofChange squeezeIsGreedyWrong)

/- THE SECOND FORM. 'bulk': how many values and letters a reading holds, each counted each time it is reached (what is shared counts as often as it is met; a slice's spare places count too). A statement '..UptoSaid' is the law's where the arguments, and the package variables that the reading takes, are together of bulk at most 1048576: NARROWER than '..Said'. Prove '..Said' where nothing that the law and all that it calls make is longer than what came in: it says more and counts as full. Else prove '..UptoSaid'. A law counts once. -/
mutual
def uptoBulk {H : Type} : DataW H → Nat
  | .lit (.string bytes) => bytes.length + 1
  | .lit _ => 1
  | .nil => 1
  | .ptr d => uptoBulk d + 1
  | .slice elems spare => uptoBulkAll elems + uptoBulkAll spare + 1
  | .agg parts => uptoBulkAll parts + 1
  | .iface _ d => uptoBulk d + 1
  | .map entries => uptoBulkEntries entries + 1
  | .held _ => 1
def uptoBulkAll {H : Type} : List (DataW H) → Nat
  | [] => 0
  | d :: r => uptoBulk d + uptoBulkAll r
def uptoBulkEntries {H : Type} : List (Lit × DataW H) → Nat
  | [] => 0
  | x :: r => uptoBulkEntry x + uptoBulkEntries r
def uptoBulkEntry {H : Type} : Lit × DataW H → Nat
  | (.string bytes, d) => bytes.length + uptoBulk d + 1
  | (_, d) => uptoBulk d + 1
 end
def uptoSmall : (H : Type) → List (DataW H) → Bool := fun _ ds => decide (uptoBulkAll ds ≤ 1048576)
def OpenSpec.upto (s : _root_.Go.ChangeSpec) : _root_.Go.OpenSpec := { _root_.Go.OpenSpec.ofChange s with cond := some uptoSmall }

/-- 'amberlaw20.SqueezeStaysSmall', WHERE WHAT IT READS IS OF BULK AT MOST 1048576: true; the input reads as it did. -/
def squeezeStaysSmallUptoRow : OpenClaim := { program := "yteloomlcaimlaaa", sum := "473d7cdece6211f0d87929d2d69885a4de2c2ef7468cf40f263bd56f40bf72c3", func := "amber/amberlaw20.SqueezeStaysSmall", spec := "squeezeStaysSmall", apart := false, narrowed := true }
def SqueezeStaysSmallUptoSaid : Prop := squeezeStaysSmallUptoRow.holds Try.pinned (OpenSpec.upto squeezeStaysSmallSpec)

/-- 'amberlaw20.SqueezeIsFixed', WHERE WHAT IT READS IS OF BULK AT MOST 1048576: true; the input reads as it did. -/
def squeezeIsFixedUptoRow : OpenClaim := { program := "yteloomlcaimlaaa", sum := "473d7cdece6211f0d87929d2d69885a4de2c2ef7468cf40f263bd56f40bf72c3", func := "amber/amberlaw20.SqueezeIsFixed", spec := "squeezeIsFixed", apart := false, narrowed := true }
def SqueezeIsFixedUptoSaid : Prop := squeezeIsFixedUptoRow.holds Try.pinned (OpenSpec.upto squeezeIsFixedSpec)

/-- 'amberlaw20.SqueezeTooMuch', WHERE WHAT IT READS IS OF BULK AT MOST 1048576: true; the input reads as it did. -/
def squeezeTooMuchUptoRow : OpenClaim := { program := "yteloomlcaimlaaa", sum := "473d7cdece6211f0d87929d2d69885a4de2c2ef7468cf40f263bd56f40bf72c3", func := "amber/amberlaw20.SqueezeTooMuch", spec := "squeezeTooMuch", apart := false, narrowed := true }
def SqueezeTooMuchUptoSaid : Prop := squeezeTooMuchUptoRow.holds Try.pinned (OpenSpec.upto squeezeTooMuchSpec)

/-- 'amberlaw20.SqueezePacks', WHERE WHAT IT READS IS OF BULK AT MOST 1048576: true; the input reads as it did. -/
def squeezePacksUptoRow : OpenClaim := { program := "yteloomlcaimlaaa", sum := "473d7cdece6211f0d87929d2d69885a4de2c2ef7468cf40f263bd56f40bf72c3", func := "amber/amberlaw20.SqueezePacks", spec := "squeezePacks", apart := false, narrowed := true }
def SqueezePacksUptoSaid : Prop := squeezePacksUptoRow.holds Try.pinned (OpenSpec.upto squeezePacksSpec)

/-- 'amberlaw20.SqueezeGivesBack', WHERE WHAT IT READS IS OF BULK AT MOST 1048576: true; the input reads as it did. -/
def squeezeGivesBackUptoRow : OpenClaim := { program := "yteloomlcaimlaaa", sum := "473d7cdece6211f0d87929d2d69885a4de2c2ef7468cf40f263bd56f40bf72c3", func := "amber/amberlaw20.SqueezeGivesBack", spec := "squeezeGivesBack", apart := false, narrowed := true }
def SqueezeGivesBackUptoSaid : Prop := squeezeGivesBackUptoRow.holds Try.pinned (OpenSpec.upto squeezeGivesBackSpec)

/-- 'amberlaw20.SqueezeIsGreedy', WHERE WHAT IT READS IS OF BULK AT MOST 1048576: true; the input reads as it did. -/
def squeezeIsGreedyUptoRow : OpenClaim := { program := "yteloomlcaimlaaa", sum := "473d7cdece6211f0d87929d2d69885a4de2c2ef7468cf40f263bd56f40bf72c3", func := "amber/amberlaw20.SqueezeIsGreedy", spec := "squeezeIsGreedy", apart := false, narrowed := true }
def SqueezeIsGreedyUptoSaid : Prop := squeezeIsGreedyUptoRow.holds Try.pinned (OpenSpec.upto squeezeIsGreedySpec)

end Rows
end Go.Proofs.Yteloomlcaimlaaa
