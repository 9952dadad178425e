/-
  No cell of these rows narrows 'for every input' (looked for: loops, veiled, ifaces, maps, wideKeys, modest, calm, conditions, laid).
  DERIVED. THE GIVEN ROWS OF THIS SEAT. 6 by the template 'for every input the law returns true; each argument reads behind the call as it read before'; 0 by the template 'total and deterministic' (their statements: YtngmnlmagbfijaaTotals.lean).
  GIVEN WITH THE SEED: the statements are not yours to turn. If you find one false, say at which input.
  Laid BY PROGRAM, IN A SANDBOX (cutbox-rows.mjs): the forced cells as the released guide's own fill.sh prints them over the translation 60635363ad4a36ef… (all of the seat's roots in one cut). By AI agents, Wed Nov 11 2026. No macro, syntax, notation, axiom, sorry.
-/
import Derived.Test.YtngmnlmagbfijaaChecked
import GoSem.Claim
import GoSem.ClaimJoined
import GoSem.ClaimMapViews
import Derived.JoinedTies
import Derived.KernelRfl
namespace Go.Proofs.Ytngmnlmagbfijaa
/- THE CELL 'sum', in the pinned program and in every row, IS THE sha256 OF THE DUMP (.gsa) THAT YtngmnlmagbfijaaProg.lean LOADS. Nothing in Lean hashes anything: it is a label: what it is worth is what the hold of that sum in a sandbox is worth. -/
noncomputable def Try.pinned : Pinned := { name := "ytngmnlmagbfijaa", sum := "60635363ad4a36efe1bf4523b714248992e16c9f8cb606a9bbb54468e98398cf", checked := Try.checked }
namespace Rows
def none {H : Type} : Left H := { results := [], args := [] }

/-- 'amberlaw24.SchedTurns': WHATEVER THE INPUT: true; the input reads as it did. -/
def schedTurnsSpec : ChangeSpec := { name := "schedTurns", fn := fun _ => fun
  | [d] => { results := [.lit (.bool true)], args := [d] }
  | _ => none }
def schedTurnsRow : OpenClaim := { program := "ytngmnlmagbfijaa", sum := "60635363ad4a36efe1bf4523b714248992e16c9f8cb606a9bbb54468e98398cf", func := "amber/amberlaw24.SchedTurns", spec := "schedTurns", unfollowed := true, recurses := true, apart := false }
def SchedTurnsSaid : Prop := schedTurnsRow.holds Try.pinned (OpenSpec.ofChange schedTurnsSpec)

/-- ITS FALSE NEIGHBOUR: 'it returns false'. Refute it at one input. -/
def schedTurnsWrong : ChangeSpec := { name := "schedTurns", fn := fun _ => fun
  | [d] => { results := [.lit (.bool false)], args := [d] }
  | _ => none }
def SchedTurnsWrongFalsely : Prop := schedTurnsRow.holds Try.pinned (OpenSpec.ofChange schedTurnsWrong)

/-- 'amberlaw24.SchedRanks': WHATEVER THE INPUT: true; the input reads as it did. -/
def schedRanksSpec : ChangeSpec := { name := "schedRanks", fn := fun _ => fun
  | [d] => { results := [.lit (.bool true)], args := [d] }
  | _ => none }
def schedRanksRow : OpenClaim := { program := "ytngmnlmagbfijaa", sum := "60635363ad4a36efe1bf4523b714248992e16c9f8cb606a9bbb54468e98398cf", func := "amber/amberlaw24.SchedRanks", spec := "schedRanks", unfollowed := true, recurses := true, apart := false }
def SchedRanksSaid : Prop := schedRanksRow.holds Try.pinned (OpenSpec.ofChange schedRanksSpec)

/-- ITS FALSE NEIGHBOUR: 'it returns false'. Refute it at one input. -/
def schedRanksWrong : ChangeSpec := { name := "schedRanks", fn := fun _ => fun
  | [d] => { results := [.lit (.bool false)], args := [d] }
  | _ => none }
def SchedRanksWrongFalsely : Prop := schedRanksRow.holds Try.pinned (OpenSpec.ofChange schedRanksWrong)

/-- 'amberlaw24.SchedMarks': WHATEVER THE INPUT: true; the input reads as it did. -/
def schedMarksSpec : ChangeSpec := { name := "schedMarks", fn := fun _ => fun
  | [d] => { results := [.lit (.bool true)], args := [d] }
  | _ => none }
def schedMarksRow : OpenClaim := { program := "ytngmnlmagbfijaa", sum := "60635363ad4a36efe1bf4523b714248992e16c9f8cb606a9bbb54468e98398cf", func := "amber/amberlaw24.SchedMarks", spec := "schedMarks", unfollowed := true, recurses := true, apart := false }
def SchedMarksSaid : Prop := schedMarksRow.holds Try.pinned (OpenSpec.ofChange schedMarksSpec)

/-- ITS FALSE NEIGHBOUR: 'it returns false'. Refute it at one input. -/
def schedMarksWrong : ChangeSpec := { name := "schedMarks", fn := fun _ => fun
  | [d] => { results := [.lit (.bool false)], args := [d] }
  | _ => none }
def SchedMarksWrongFalsely : Prop := schedMarksRow.holds Try.pinned (OpenSpec.ofChange schedMarksWrong)

/-- 'amberlaw24.SchedShares': WHATEVER THE INPUT: true; the input reads as it did. -/
def schedSharesSpec : ChangeSpec := { name := "schedShares", fn := fun _ => fun
  | [d] => { results := [.lit (.bool true)], args := [d] }
  | _ => none }
def schedSharesRow : OpenClaim := { program := "ytngmnlmagbfijaa", sum := "60635363ad4a36efe1bf4523b714248992e16c9f8cb606a9bbb54468e98398cf", func := "amber/amberlaw24.SchedShares", spec := "schedShares", unfollowed := true, recurses := true, apart := false }
def SchedSharesSaid : Prop := schedSharesRow.holds Try.pinned (OpenSpec.ofChange schedSharesSpec)

/-- ITS FALSE NEIGHBOUR: 'it returns false'. Refute it at one input. -/
def schedSharesWrong : ChangeSpec := { name := "schedShares", fn := fun _ => fun
  | [d] => { results := [.lit (.bool false)], args := [d] }
  | _ => none }
def SchedSharesWrongFalsely : Prop := schedSharesRow.holds Try.pinned (OpenSpec.ofChange schedSharesWrong)

/-- 'amberlaw24.SchedHangs': WHATEVER THE INPUT: true; the input reads as it did. -/
def schedHangsSpec : ChangeSpec := { name := "schedHangs", fn := fun _ => fun
  | [d1, d2, d3] => { results := [.lit (.bool true)], args := [d1, d2, d3] }
  | _ => none }
def schedHangsRow : OpenClaim := { program := "ytngmnlmagbfijaa", sum := "60635363ad4a36efe1bf4523b714248992e16c9f8cb606a9bbb54468e98398cf", func := "amber/amberlaw24.SchedHangs", spec := "schedHangs", unfollowed := true, recurses := true, apart := false }
def SchedHangsSaid : Prop := schedHangsRow.holds Try.pinned (OpenSpec.ofChange schedHangsSpec)

/-- ITS FALSE NEIGHBOUR: 'it returns false'. Refute it at one input. -/
def schedHangsWrong : ChangeSpec := { name := "schedHangs", fn := fun _ => fun
  | [d1, d2, d3] => { results := [.lit (.bool false)], args := [d1, d2, d3] }
  | _ => none }
def SchedHangsWrongFalsely : Prop := schedHangsRow.holds Try.pinned (OpenSpec.ofChange schedHangsWrong)

/-- 'amberlaw24.SchedTells': WHATEVER THE INPUT: true; the input reads as it did. -/
def schedTellsSpec : ChangeSpec := { name := "schedTells", fn := fun _ => fun
  | [d1, d2] => { results := [.lit (.bool true)], args := [d1, d2] }
  | _ => none }
def schedTellsRow : OpenClaim := { program := "ytngmnlmagbfijaa", sum := "60635363ad4a36efe1bf4523b714248992e16c9f8cb606a9bbb54468e98398cf", func := "amber/amberlaw24.SchedTells", spec := "schedTells", unfollowed := true, recurses := true, apart := false }
def SchedTellsSaid : Prop := schedTellsRow.holds Try.pinned (OpenSpec.ofChange schedTellsSpec)

/-- ITS FALSE NEIGHBOUR: 'it returns false'. Refute it at one input. -/
def schedTellsWrong : ChangeSpec := { name := "schedTells", fn := fun _ => fun
  | [d1, d2] => { results := [.lit (.bool false)], args := [d1, d2] }
  | _ => none }
def SchedTellsWrongFalsely : Prop := schedTellsRow.holds Try.pinned (OpenSpec.ofChange schedTellsWrong)

/- THE SECOND FORM. 'bulk': how many values and letters a reading holds, each counted each time it is reached (what is shared counts as often as it is met; a slice's spare places count too). A statement '..UptoSaid' is the law's where the arguments, and the package variables that the reading takes, are together of bulk at most 1048576: NARROWER than '..Said'. Prove '..Said' where nothing that the law and all that it calls make is longer than what came in: it says more and counts as full. Else prove '..UptoSaid'. A law counts once. -/
mutual
def uptoBulk {H : Type} : DataW H → Nat
  | .lit (.string bytes) => bytes.length + 1
  | .lit _ => 1
  | .nil => 1
  | .ptr d => uptoBulk d + 1
  | .slice elems spare => uptoBulkAll elems + uptoBulkAll spare + 1
  | .agg parts => uptoBulkAll parts + 1
  | .iface _ d => uptoBulk d + 1
  | .map entries => uptoBulkEntries entries + 1
  | .held _ => 1
def uptoBulkAll {H : Type} : List (DataW H) → Nat
  | [] => 0
  | d :: r => uptoBulk d + uptoBulkAll r
def uptoBulkEntries {H : Type} : List (Lit × DataW H) → Nat
  | [] => 0
  | x :: r => uptoBulkEntry x + uptoBulkEntries r
def uptoBulkEntry {H : Type} : Lit × DataW H → Nat
  | (.string bytes, d) => bytes.length + uptoBulk d + 1
  | (_, d) => uptoBulk d + 1
 end
def uptoSmall : (H : Type) → List (DataW H) → Bool := fun _ ds => decide (uptoBulkAll ds ≤ 1048576)
def OpenSpec.upto (s : _root_.Go.ChangeSpec) : _root_.Go.OpenSpec := { _root_.Go.OpenSpec.ofChange s with cond := some uptoSmall }

/-- 'amberlaw24.SchedTurns', WHERE WHAT IT READS IS OF BULK AT MOST 1048576: true; the input reads as it did. -/
def schedTurnsUptoRow : OpenClaim := { program := "ytngmnlmagbfijaa", sum := "60635363ad4a36efe1bf4523b714248992e16c9f8cb606a9bbb54468e98398cf", func := "amber/amberlaw24.SchedTurns", spec := "schedTurns", unfollowed := true, recurses := true, apart := false, narrowed := true }
def SchedTurnsUptoSaid : Prop := schedTurnsUptoRow.holds Try.pinned (OpenSpec.upto schedTurnsSpec)

/-- 'amberlaw24.SchedRanks', WHERE WHAT IT READS IS OF BULK AT MOST 1048576: true; the input reads as it did. -/
def schedRanksUptoRow : OpenClaim := { program := "ytngmnlmagbfijaa", sum := "60635363ad4a36efe1bf4523b714248992e16c9f8cb606a9bbb54468e98398cf", func := "amber/amberlaw24.SchedRanks", spec := "schedRanks", unfollowed := true, recurses := true, apart := false, narrowed := true }
def SchedRanksUptoSaid : Prop := schedRanksUptoRow.holds Try.pinned (OpenSpec.upto schedRanksSpec)

/-- 'amberlaw24.SchedMarks', WHERE WHAT IT READS IS OF BULK AT MOST 1048576: true; the input reads as it did. -/
def schedMarksUptoRow : OpenClaim := { program := "ytngmnlmagbfijaa", sum := "60635363ad4a36efe1bf4523b714248992e16c9f8cb606a9bbb54468e98398cf", func := "amber/amberlaw24.SchedMarks", spec := "schedMarks", unfollowed := true, recurses := true, apart := false, narrowed := true }
def SchedMarksUptoSaid : Prop := schedMarksUptoRow.holds Try.pinned (OpenSpec.upto schedMarksSpec)

/-- 'amberlaw24.SchedShares', WHERE WHAT IT READS IS OF BULK AT MOST 1048576: true; the input reads as it did. -/
def schedSharesUptoRow : OpenClaim := { program := "ytngmnlmagbfijaa", sum := "60635363ad4a36efe1bf4523b714248992e16c9f8cb606a9bbb54468e98398cf", func := "amber/amberlaw24.SchedShares", spec := "schedShares", unfollowed := true, recurses := true, apart := false, narrowed := true }
def SchedSharesUptoSaid : Prop := schedSharesUptoRow.holds Try.pinned (OpenSpec.upto schedSharesSpec)

/-- 'amberlaw24.SchedHangs', WHERE WHAT IT READS IS OF BULK AT MOST 1048576: true; the input reads as it did. -/
def schedHangsUptoRow : OpenClaim := { program := "ytngmnlmagbfijaa", sum := "60635363ad4a36efe1bf4523b714248992e16c9f8cb606a9bbb54468e98398cf", func := "amber/amberlaw24.SchedHangs", spec := "schedHangs", unfollowed := true, recurses := true, apart := false, narrowed := true }
def SchedHangsUptoSaid : Prop := schedHangsUptoRow.holds Try.pinned (OpenSpec.upto schedHangsSpec)

/-- 'amberlaw24.SchedTells', WHERE WHAT IT READS IS OF BULK AT MOST 1048576: true; the input reads as it did. -/
def schedTellsUptoRow : OpenClaim := { program := "ytngmnlmagbfijaa", sum := "60635363ad4a36efe1bf4523b714248992e16c9f8cb606a9bbb54468e98398cf", func := "amber/amberlaw24.SchedTells", spec := "schedTells", unfollowed := true, recurses := true, apart := false, narrowed := true }
def SchedTellsUptoSaid : Prop := schedTellsUptoRow.holds Try.pinned (OpenSpec.upto schedTellsSpec)

end Rows
end Go.Proofs.Ytngmnlmagbfijaa
