/-
  DERIVED. GIVEN WITH THE SEED: THE CARDS: each row of YtoaplkfmchphbaaDoorRows.lean that lists a variable, with what it lists TIED to the program's text (the seventh form; the later family's looks); each row that meets fmt, with fmt's text TOLD by the authors' own Lean function (tested against real Go, not proved from fmt's source: count such statements apart). THE CARD IS WHAT COUNTS. Prove the row's statement (the work); the ties are given (YtoaplkfmchphbaaDoorTie.lean); close each card by the builder's one call (the guide's Derived/Test/ToyasCard.lean, 'card_holds'). Laid BY PROGRAM, IN A SANDBOX (cutbox-door.mjs). By AI agents, Wed Nov 11 2026. No macro, syntax, notation, axiom, sorry.
-/
import Derived.Test.YtoaplkfmchphbaaDoorRows
import GoSem.ClaimSeven
namespace Go.Proofs.YtoaplkfmchphbaaDoor
namespace Rows

/-- THE TIED CARD OF 'amberlaw07.IsaJumps'. -/
def isaJumpsCard : Claim7 := { stood := { row := isaJumpsRow, standIns := [], harness := (true, "fc5d2f6d9ef3e207f93cec4199353efc8d39399ac0f3f3200e8abfb312a45877"), looks := false }, kinds := [], alts := [], laidByText := true, laidKinds := [.data, .data, .data, .data, .data, .pinned], laidTests := true, laidLooks := .later }
def IsaJumpsCardSaid : Prop := Claim7.holds Tryd.pinned (.plain (OpenSpec.ofChange isaJumpsSpec)) isaJumpsCard

/-- THE TIED CARD OF 'amberlaw07.IsaBlanks'. -/
def isaBlanksCard : Claim7 := { stood := { row := isaBlanksRow, standIns := [], harness := (true, "fc5d2f6d9ef3e207f93cec4199353efc8d39399ac0f3f3200e8abfb312a45877"), looks := false }, kinds := [], alts := [], laidByText := true, laidKinds := [.data, .data, .pinned], laidTests := true, laidLooks := .later }
def IsaBlanksCardSaid : Prop := Claim7.holds Tryd.pinned (.plain (OpenSpec.ofChange isaBlanksSpec)) isaBlanksCard

/-- THE TIED CARD OF 'amberlaw07.IsaEuclid'. -/
def isaEuclidCard : Claim7 := { stood := { row := isaEuclidRow, standIns := [], harness := (true, "fc5d2f6d9ef3e207f93cec4199353efc8d39399ac0f3f3200e8abfb312a45877"), looks := false }, kinds := [], alts := [], laidByText := true, laidKinds := [.data, .data, .data, .data, .data, .pinned], laidTests := true, laidLooks := .later }
def IsaEuclidCardSaid : Prop := Claim7.holds Tryd.pinned (.plain (OpenSpec.ofChange isaEuclidSpec)) isaEuclidCard

/-- THE TIED CARD OF 'amberlaw07.IsaSorts'. -/
def isaSortsCard : Claim7 := { stood := { row := isaSortsRow, standIns := [], harness := (true, "fc5d2f6d9ef3e207f93cec4199353efc8d39399ac0f3f3200e8abfb312a45877"), looks := false }, kinds := [], alts := [], laidByText := true, laidKinds := [.data, .data, .data, .data, .data, .pinned], laidTests := true, laidLooks := .later }
def IsaSortsCardSaid : Prop := Claim7.holds Tryd.pinned (.plain (OpenSpec.ofChange isaSortsSpec)) isaSortsCard

/-- THE TIED CARD OF 'amberlaw07.IsaRound'. -/
def isaRoundCard : Claim7 := { stood := { row := isaRoundRow, standIns := [], harness := (true, "fc5d2f6d9ef3e207f93cec4199353efc8d39399ac0f3f3200e8abfb312a45877"), looks := false }, kinds := [], alts := [], laidByText := true, laidKinds := [.data, .data, .data, .data, .data, .pinned], laidTests := true, laidLooks := .later }
def IsaRoundCardSaid : Prop := Claim7.holds Tryd.pinned (.plain (OpenSpec.ofChange isaRoundSpec)) isaRoundCard

/-- THE TIED CARD OF 'amberlaw07.IsaApart'. -/
def isaApartCard : Claim7 := { stood := { row := isaApartRow, standIns := [], harness := (true, "fc5d2f6d9ef3e207f93cec4199353efc8d39399ac0f3f3200e8abfb312a45877"), looks := false }, kinds := [], alts := [], laidByText := true, laidKinds := [.data, .data, .data, .data, .data, .pinned], laidTests := true, laidLooks := .later }
def IsaApartCardSaid : Prop := Claim7.holds Tryd.pinned (.plain (OpenSpec.ofChange isaApartSpec)) isaApartCard

/-- THE SECOND FORM's CARD OF 'amberlaw07.IsaJumps'. -/
def isaJumpsUptoCard : Claim7 := { stood := { row := isaJumpsUptoRow, standIns := [], harness := (true, "fc5d2f6d9ef3e207f93cec4199353efc8d39399ac0f3f3200e8abfb312a45877"), looks := false }, kinds := [], alts := [], laidByText := true, laidKinds := [.data, .data, .data, .data, .data, .pinned], laidTests := true, laidLooks := .later }
def IsaJumpsUptoCardSaid : Prop := Claim7.holds Tryd.pinned (.plain (OpenSpec.upto isaJumpsSpec)) isaJumpsUptoCard

/-- THE SECOND FORM's CARD OF 'amberlaw07.IsaBlanks'. -/
def isaBlanksUptoCard : Claim7 := { stood := { row := isaBlanksUptoRow, standIns := [], harness := (true, "fc5d2f6d9ef3e207f93cec4199353efc8d39399ac0f3f3200e8abfb312a45877"), looks := false }, kinds := [], alts := [], laidByText := true, laidKinds := [.data, .data, .pinned], laidTests := true, laidLooks := .later }
def IsaBlanksUptoCardSaid : Prop := Claim7.holds Tryd.pinned (.plain (OpenSpec.upto isaBlanksSpec)) isaBlanksUptoCard

/-- THE SECOND FORM's CARD OF 'amberlaw07.IsaEuclid'. -/
def isaEuclidUptoCard : Claim7 := { stood := { row := isaEuclidUptoRow, standIns := [], harness := (true, "fc5d2f6d9ef3e207f93cec4199353efc8d39399ac0f3f3200e8abfb312a45877"), looks := false }, kinds := [], alts := [], laidByText := true, laidKinds := [.data, .data, .data, .data, .data, .pinned], laidTests := true, laidLooks := .later }
def IsaEuclidUptoCardSaid : Prop := Claim7.holds Tryd.pinned (.plain (OpenSpec.upto isaEuclidSpec)) isaEuclidUptoCard

/-- THE SECOND FORM's CARD OF 'amberlaw07.IsaSorts'. -/
def isaSortsUptoCard : Claim7 := { stood := { row := isaSortsUptoRow, standIns := [], harness := (true, "fc5d2f6d9ef3e207f93cec4199353efc8d39399ac0f3f3200e8abfb312a45877"), looks := false }, kinds := [], alts := [], laidByText := true, laidKinds := [.data, .data, .data, .data, .data, .pinned], laidTests := true, laidLooks := .later }
def IsaSortsUptoCardSaid : Prop := Claim7.holds Tryd.pinned (.plain (OpenSpec.upto isaSortsSpec)) isaSortsUptoCard

/-- THE SECOND FORM's CARD OF 'amberlaw07.IsaRound'. -/
def isaRoundUptoCard : Claim7 := { stood := { row := isaRoundUptoRow, standIns := [], harness := (true, "fc5d2f6d9ef3e207f93cec4199353efc8d39399ac0f3f3200e8abfb312a45877"), looks := false }, kinds := [], alts := [], laidByText := true, laidKinds := [.data, .data, .data, .data, .data, .pinned], laidTests := true, laidLooks := .later }
def IsaRoundUptoCardSaid : Prop := Claim7.holds Tryd.pinned (.plain (OpenSpec.upto isaRoundSpec)) isaRoundUptoCard

/-- THE SECOND FORM's CARD OF 'amberlaw07.IsaApart'. -/
def isaApartUptoCard : Claim7 := { stood := { row := isaApartUptoRow, standIns := [], harness := (true, "fc5d2f6d9ef3e207f93cec4199353efc8d39399ac0f3f3200e8abfb312a45877"), looks := false }, kinds := [], alts := [], laidByText := true, laidKinds := [.data, .data, .data, .data, .data, .pinned], laidTests := true, laidLooks := .later }
def IsaApartUptoCardSaid : Prop := Claim7.holds Tryd.pinned (.plain (OpenSpec.upto isaApartSpec)) isaApartUptoCard
end Rows
end Go.Proofs.YtoaplkfmchphbaaDoor
