/-
  No cell of these rows narrows 'for every input' (looked for: loops, veiled, ifaces, maps, wideKeys, modest, calm, conditions, laid).
  DERIVED. THE GIVEN ROWS OF THIS SEAT. 6 by the template 'for every input the law returns true; each argument reads behind the call as it read before'; 0 by the template 'total and deterministic' (their statements: YtimfgjndgfjjgaaTotals.lean).
  GIVEN WITH THE SEED: the statements are not yours to turn. If you find one false, say at which input.
  Laid BY PROGRAM, IN A SANDBOX (cutbox-rows.mjs): the forced cells as the released guide's own fill.sh prints them over the translation 9d4a9a6f3b62ff04… (all of the seat's roots in one cut). By AI agents, Wed Nov 11 2026. No macro, syntax, notation, axiom, sorry.
-/
import Derived.Test.YtimfgjndgfjjgaaChecked
import GoSem.Claim
import GoSem.ClaimJoined
import GoSem.ClaimMapViews
import Derived.JoinedTies
import Derived.KernelRfl
namespace Go.Proofs.Ytimfgjndgfjjgaa
/- THE CELL 'sum', in the pinned program and in every row, IS THE sha256 OF THE DUMP (.gsa) THAT YtimfgjndgfjjgaaProg.lean LOADS. Nothing in Lean hashes anything: it is a label: what it is worth is what the hold of that sum in a sandbox is worth. -/
noncomputable def Try.pinned : Pinned := { name := "ytimfgjndgfjjgaa", sum := "9d4a9a6f3b62ff04c1b9ceef18da0e0d2ba84cefd7395fe8cda3f0b918c17634", checked := Try.checked }
namespace Rows
def none {H : Type} : Left H := { results := [], args := [] }

/-- 'amberlaw08.CapsPassOn': WHATEVER THE INPUT: true; the input reads as it did. -/
def capsPassOnSpec : ChangeSpec := { name := "capsPassOn", fn := fun _ => fun
  | [d1, d2] => { results := [.lit (.bool true)], args := [d1, d2] }
  | _ => none }
def capsPassOnRow : OpenClaim := { program := "ytimfgjndgfjjgaa", sum := "9d4a9a6f3b62ff04c1b9ceef18da0e0d2ba84cefd7395fe8cda3f0b918c17634", func := "amber/amberlaw08.CapsPassOn", spec := "capsPassOn", unfollowed := true, recurses := true, apart := false }
def CapsPassOnSaid : Prop := capsPassOnRow.holds Try.pinned (OpenSpec.ofChange capsPassOnSpec)

/-- ITS FALSE NEIGHBOUR: 'it returns false'. Refute it at one input. -/
def capsPassOnWrong : ChangeSpec := { name := "capsPassOn", fn := fun _ => fun
  | [d1, d2] => { results := [.lit (.bool false)], args := [d1, d2] }
  | _ => none }
def CapsPassOnWrongFalsely : Prop := capsPassOnRow.holds Try.pinned (OpenSpec.ofChange capsPassOnWrong)

/-- 'amberlaw08.CapsLowest': WHATEVER THE INPUT: true; the input reads as it did. -/
def capsLowestSpec : ChangeSpec := { name := "capsLowest", fn := fun _ => fun
  | [d1, d2] => { results := [.lit (.bool true)], args := [d1, d2] }
  | _ => none }
def capsLowestRow : OpenClaim := { program := "ytimfgjndgfjjgaa", sum := "9d4a9a6f3b62ff04c1b9ceef18da0e0d2ba84cefd7395fe8cda3f0b918c17634", func := "amber/amberlaw08.CapsLowest", spec := "capsLowest", unfollowed := true, recurses := true, apart := false }
def CapsLowestSaid : Prop := capsLowestRow.holds Try.pinned (OpenSpec.ofChange capsLowestSpec)

/-- ITS FALSE NEIGHBOUR: 'it returns false'. Refute it at one input. -/
def capsLowestWrong : ChangeSpec := { name := "capsLowest", fn := fun _ => fun
  | [d1, d2] => { results := [.lit (.bool false)], args := [d1, d2] }
  | _ => none }
def CapsLowestWrongFalsely : Prop := capsLowestRow.holds Try.pinned (OpenSpec.ofChange capsLowestWrong)

/-- 'amberlaw08.CapsNeverGrow': WHATEVER THE INPUT: true; the input reads as it did. -/
def capsNeverGrowSpec : ChangeSpec := { name := "capsNeverGrow", fn := fun _ => fun
  | [d1, d2] => { results := [.lit (.bool true)], args := [d1, d2] }
  | _ => none }
def capsNeverGrowRow : OpenClaim := { program := "ytimfgjndgfjjgaa", sum := "9d4a9a6f3b62ff04c1b9ceef18da0e0d2ba84cefd7395fe8cda3f0b918c17634", func := "amber/amberlaw08.CapsNeverGrow", spec := "capsNeverGrow", unfollowed := true, recurses := true, apart := false }
def CapsNeverGrowSaid : Prop := capsNeverGrowRow.holds Try.pinned (OpenSpec.ofChange capsNeverGrowSpec)

/-- ITS FALSE NEIGHBOUR: 'it returns false'. Refute it at one input. -/
def capsNeverGrowWrong : ChangeSpec := { name := "capsNeverGrow", fn := fun _ => fun
  | [d1, d2] => { results := [.lit (.bool false)], args := [d1, d2] }
  | _ => none }
def CapsNeverGrowWrongFalsely : Prop := capsNeverGrowRow.holds Try.pinned (OpenSpec.ofChange capsNeverGrowWrong)

/-- 'amberlaw08.CapsAreSound': WHATEVER THE INPUT: true; the input reads as it did. -/
def capsAreSoundSpec : ChangeSpec := { name := "capsAreSound", fn := fun _ => fun
  | [d] => { results := [.lit (.bool true)], args := [d] }
  | _ => none }
def capsAreSoundRow : OpenClaim := { program := "ytimfgjndgfjjgaa", sum := "9d4a9a6f3b62ff04c1b9ceef18da0e0d2ba84cefd7395fe8cda3f0b918c17634", func := "amber/amberlaw08.CapsAreSound", spec := "capsAreSound", unfollowed := true, recurses := true, apart := false }
def CapsAreSoundSaid : Prop := capsAreSoundRow.holds Try.pinned (OpenSpec.ofChange capsAreSoundSpec)

/-- ITS FALSE NEIGHBOUR: 'it returns false'. Refute it at one input. -/
def capsAreSoundWrong : ChangeSpec := { name := "capsAreSound", fn := fun _ => fun
  | [d] => { results := [.lit (.bool false)], args := [d] }
  | _ => none }
def CapsAreSoundWrongFalsely : Prop := capsAreSoundRow.holds Try.pinned (OpenSpec.ofChange capsAreSoundWrong)

/-- 'amberlaw08.CapsKeepApart': WHATEVER THE INPUT: true; the input reads as it did. -/
def capsKeepApartSpec : ChangeSpec := { name := "capsKeepApart", fn := fun _ => fun
  | [d] => { results := [.lit (.bool true)], args := [d] }
  | _ => none }
def capsKeepApartRow : OpenClaim := { program := "ytimfgjndgfjjgaa", sum := "9d4a9a6f3b62ff04c1b9ceef18da0e0d2ba84cefd7395fe8cda3f0b918c17634", func := "amber/amberlaw08.CapsKeepApart", spec := "capsKeepApart", unfollowed := true, recurses := true, apart := false }
def CapsKeepApartSaid : Prop := capsKeepApartRow.holds Try.pinned (OpenSpec.ofChange capsKeepApartSpec)

/-- ITS FALSE NEIGHBOUR: 'it returns false'. Refute it at one input. -/
def capsKeepApartWrong : ChangeSpec := { name := "capsKeepApart", fn := fun _ => fun
  | [d] => { results := [.lit (.bool false)], args := [d] }
  | _ => none }
def CapsKeepApartWrongFalsely : Prop := capsKeepApartRow.holds Try.pinned (OpenSpec.ofChange capsKeepApartWrong)

/-- 'amberlaw08.CapsRevokeAll': WHATEVER THE INPUT: true; the input reads as it did. -/
def capsRevokeAllSpec : ChangeSpec := { name := "capsRevokeAll", fn := fun _ => fun
  | [d1, d2] => { results := [.lit (.bool true)], args := [d1, d2] }
  | _ => none }
def capsRevokeAllRow : OpenClaim := { program := "ytimfgjndgfjjgaa", sum := "9d4a9a6f3b62ff04c1b9ceef18da0e0d2ba84cefd7395fe8cda3f0b918c17634", func := "amber/amberlaw08.CapsRevokeAll", spec := "capsRevokeAll", unfollowed := true, recurses := true, apart := false }
def CapsRevokeAllSaid : Prop := capsRevokeAllRow.holds Try.pinned (OpenSpec.ofChange capsRevokeAllSpec)

/-- ITS FALSE NEIGHBOUR: 'it returns false'. Refute it at one input. -/
def capsRevokeAllWrong : ChangeSpec := { name := "capsRevokeAll", fn := fun _ => fun
  | [d1, d2] => { results := [.lit (.bool false)], args := [d1, d2] }
  | _ => none }
def CapsRevokeAllWrongFalsely : Prop := capsRevokeAllRow.holds Try.pinned (OpenSpec.ofChange capsRevokeAllWrong)

/- THE SECOND FORM. 'bulk': how many values and letters a reading holds, each counted each time it is reached (what is shared counts as often as it is met; a slice's spare places count too). A statement '..UptoSaid' is the law's where the arguments, and the package variables that the reading takes, are together of bulk at most 1048576: NARROWER than '..Said'. Prove '..Said' where nothing that the law and all that it calls make is longer than what came in: it says more and counts as full. Else prove '..UptoSaid'. A law counts once. -/
mutual
def uptoBulk {H : Type} : DataW H → Nat
  | .lit (.string bytes) => bytes.length + 1
  | .lit _ => 1
  | .nil => 1
  | .ptr d => uptoBulk d + 1
  | .slice elems spare => uptoBulkAll elems + uptoBulkAll spare + 1
  | .agg parts => uptoBulkAll parts + 1
  | .iface _ d => uptoBulk d + 1
  | .map entries => uptoBulkEntries entries + 1
  | .held _ => 1
def uptoBulkAll {H : Type} : List (DataW H) → Nat
  | [] => 0
  | d :: r => uptoBulk d + uptoBulkAll r
def uptoBulkEntries {H : Type} : List (Lit × DataW H) → Nat
  | [] => 0
  | x :: r => uptoBulkEntry x + uptoBulkEntries r
def uptoBulkEntry {H : Type} : Lit × DataW H → Nat
  | (.string bytes, d) => bytes.length + uptoBulk d + 1
  | (_, d) => uptoBulk d + 1
 end
def uptoSmall : (H : Type) → List (DataW H) → Bool := fun _ ds => decide (uptoBulkAll ds ≤ 1048576)
def OpenSpec.upto (s : _root_.Go.ChangeSpec) : _root_.Go.OpenSpec := { _root_.Go.OpenSpec.ofChange s with cond := some uptoSmall }

/-- 'amberlaw08.CapsPassOn', WHERE WHAT IT READS IS OF BULK AT MOST 1048576: true; the input reads as it did. -/
def capsPassOnUptoRow : OpenClaim := { program := "ytimfgjndgfjjgaa", sum := "9d4a9a6f3b62ff04c1b9ceef18da0e0d2ba84cefd7395fe8cda3f0b918c17634", func := "amber/amberlaw08.CapsPassOn", spec := "capsPassOn", unfollowed := true, recurses := true, apart := false, narrowed := true }
def CapsPassOnUptoSaid : Prop := capsPassOnUptoRow.holds Try.pinned (OpenSpec.upto capsPassOnSpec)

/-- 'amberlaw08.CapsLowest', WHERE WHAT IT READS IS OF BULK AT MOST 1048576: true; the input reads as it did. -/
def capsLowestUptoRow : OpenClaim := { program := "ytimfgjndgfjjgaa", sum := "9d4a9a6f3b62ff04c1b9ceef18da0e0d2ba84cefd7395fe8cda3f0b918c17634", func := "amber/amberlaw08.CapsLowest", spec := "capsLowest", unfollowed := true, recurses := true, apart := false, narrowed := true }
def CapsLowestUptoSaid : Prop := capsLowestUptoRow.holds Try.pinned (OpenSpec.upto capsLowestSpec)

/-- 'amberlaw08.CapsNeverGrow', WHERE WHAT IT READS IS OF BULK AT MOST 1048576: true; the input reads as it did. -/
def capsNeverGrowUptoRow : OpenClaim := { program := "ytimfgjndgfjjgaa", sum := "9d4a9a6f3b62ff04c1b9ceef18da0e0d2ba84cefd7395fe8cda3f0b918c17634", func := "amber/amberlaw08.CapsNeverGrow", spec := "capsNeverGrow", unfollowed := true, recurses := true, apart := false, narrowed := true }
def CapsNeverGrowUptoSaid : Prop := capsNeverGrowUptoRow.holds Try.pinned (OpenSpec.upto capsNeverGrowSpec)

/-- 'amberlaw08.CapsAreSound', WHERE WHAT IT READS IS OF BULK AT MOST 1048576: true; the input reads as it did. -/
def capsAreSoundUptoRow : OpenClaim := { program := "ytimfgjndgfjjgaa", sum := "9d4a9a6f3b62ff04c1b9ceef18da0e0d2ba84cefd7395fe8cda3f0b918c17634", func := "amber/amberlaw08.CapsAreSound", spec := "capsAreSound", unfollowed := true, recurses := true, apart := false, narrowed := true }
def CapsAreSoundUptoSaid : Prop := capsAreSoundUptoRow.holds Try.pinned (OpenSpec.upto capsAreSoundSpec)

/-- 'amberlaw08.CapsKeepApart', WHERE WHAT IT READS IS OF BULK AT MOST 1048576: true; the input reads as it did. -/
def capsKeepApartUptoRow : OpenClaim := { program := "ytimfgjndgfjjgaa", sum := "9d4a9a6f3b62ff04c1b9ceef18da0e0d2ba84cefd7395fe8cda3f0b918c17634", func := "amber/amberlaw08.CapsKeepApart", spec := "capsKeepApart", unfollowed := true, recurses := true, apart := false, narrowed := true }
def CapsKeepApartUptoSaid : Prop := capsKeepApartUptoRow.holds Try.pinned (OpenSpec.upto capsKeepApartSpec)

/-- 'amberlaw08.CapsRevokeAll', WHERE WHAT IT READS IS OF BULK AT MOST 1048576: true; the input reads as it did. -/
def capsRevokeAllUptoRow : OpenClaim := { program := "ytimfgjndgfjjgaa", sum := "9d4a9a6f3b62ff04c1b9ceef18da0e0d2ba84cefd7395fe8cda3f0b918c17634", func := "amber/amberlaw08.CapsRevokeAll", spec := "capsRevokeAll", unfollowed := true, recurses := true, apart := false, narrowed := true }
def CapsRevokeAllUptoSaid : Prop := capsRevokeAllUptoRow.holds Try.pinned (OpenSpec.upto capsRevokeAllSpec)

end Rows
end Go.Proofs.Ytimfgjndgfjjgaa
