/-
  DERIVED. GIVEN WITH THE SEED: THE CARDS: each row of YtfonenigkjngoabDoorRows.lean that lists a variable, with what it lists TIED to the program's text (the seventh form; the later family's looks); each row that meets fmt, with fmt's text TOLD by the authors' own Lean function (tested against real Go, not proved from fmt's source: count such statements apart). THE CARD IS WHAT COUNTS. Prove the row's statement (the work); the ties are given (YtfonenigkjngoabDoorTie.lean); close each card by the builder's one call (the guide's Derived/Test/ToyasCard.lean, 'card_holds'). Laid BY PROGRAM, IN A SANDBOX (cutbox-door.mjs). By AI agents, Wed Nov 11 2026. No macro, syntax, notation, axiom, sorry.
-/
import Derived.Test.YtfonenigkjngoabDoorRows
import GoSem.ClaimSeven
namespace Go.Proofs.YtfonenigkjngoabDoor
namespace Rows

/-- THE TIED CARD OF 'amberlaw07.IsaShifts'. -/
def isaShiftsCard : Claim7 := { stood := { row := isaShiftsRow, standIns := [], harness := (true, "3ea0441c4b99ba4a3b2937feb371080cfe5ed5aee1955f810fcb84e861916e0b"), looks := false }, kinds := [], alts := [], laidByText := true, laidKinds := [.data], laidTests := true, laidLooks := .later }
def IsaShiftsCardSaid : Prop := Claim7.holds Tryd.pinned (.plain (OpenSpec.ofChange isaShiftsSpec)) isaShiftsCard

/-- THE TIED CARD OF 'amberlaw07.IsaExecs'. -/
def isaExecsCard : Claim7 := { stood := { row := isaExecsRow, standIns := [], harness := (true, "3ea0441c4b99ba4a3b2937feb371080cfe5ed5aee1955f810fcb84e861916e0b"), looks := false }, kinds := [], alts := [], laidByText := true, laidKinds := [.data], laidTests := true, laidLooks := .later }
def IsaExecsCardSaid : Prop := Claim7.holds Tryd.pinned (.plain (OpenSpec.ofChange isaExecsSpec)) isaExecsCard

/-- THE TIED CARD OF 'amberlaw07.IsaTells'. -/
def isaTellsCard : Claim7 := { stood := { row := isaTellsRow, standIns := [], harness := (true, "3ea0441c4b99ba4a3b2937feb371080cfe5ed5aee1955f810fcb84e861916e0b"), looks := false }, kinds := [], alts := [], laidByText := true, laidKinds := [.data, .data, .data, .data, .data], laidTests := true, laidLooks := .later }
def IsaTellsCardSaid : Prop := Claim7.holds Tryd.pinned (.plain (OpenSpec.ofChange isaTellsSpec)) isaTellsCard

/-- THE TIED CARD OF 'amberlaw07.IsaJumps'. -/
def isaJumpsCard : Claim7 := { stood := { row := isaJumpsRow, standIns := [], harness := (true, "3ea0441c4b99ba4a3b2937feb371080cfe5ed5aee1955f810fcb84e861916e0b"), looks := false }, kinds := [], alts := [], laidByText := true, laidKinds := [.data, .data, .data, .data, .data, .pinned], laidTests := true, laidLooks := .later }
def IsaJumpsCardSaid : Prop := Claim7.holds Tryd.pinned (.plain (OpenSpec.ofChange isaJumpsSpec)) isaJumpsCard

/-- THE TIED CARD OF 'amberlaw07.IsaBlanks'. -/
def isaBlanksCard : Claim7 := { stood := { row := isaBlanksRow, standIns := [], harness := (true, "3ea0441c4b99ba4a3b2937feb371080cfe5ed5aee1955f810fcb84e861916e0b"), looks := false }, kinds := [], alts := [], laidByText := true, laidKinds := [.data, .data, .pinned], laidTests := true, laidLooks := .later }
def IsaBlanksCardSaid : Prop := Claim7.holds Tryd.pinned (.plain (OpenSpec.ofChange isaBlanksSpec)) isaBlanksCard

/-- THE TIED CARD OF 'amberlaw07.IsaEuclid'. -/
def isaEuclidCard : Claim7 := { stood := { row := isaEuclidRow, standIns := [], harness := (true, "3ea0441c4b99ba4a3b2937feb371080cfe5ed5aee1955f810fcb84e861916e0b"), looks := false }, kinds := [], alts := [], laidByText := true, laidKinds := [.data, .data, .data, .data, .data, .pinned], laidTests := true, laidLooks := .later }
def IsaEuclidCardSaid : Prop := Claim7.holds Tryd.pinned (.plain (OpenSpec.ofChange isaEuclidSpec)) isaEuclidCard

/-- THE SECOND FORM's CARD OF 'amberlaw07.IsaShifts'. -/
def isaShiftsUptoCard : Claim7 := { stood := { row := isaShiftsUptoRow, standIns := [], harness := (true, "3ea0441c4b99ba4a3b2937feb371080cfe5ed5aee1955f810fcb84e861916e0b"), looks := false }, kinds := [], alts := [], laidByText := true, laidKinds := [.data], laidTests := true, laidLooks := .later }
def IsaShiftsUptoCardSaid : Prop := Claim7.holds Tryd.pinned (.plain (OpenSpec.upto isaShiftsSpec)) isaShiftsUptoCard

/-- THE SECOND FORM's CARD OF 'amberlaw07.IsaExecs'. -/
def isaExecsUptoCard : Claim7 := { stood := { row := isaExecsUptoRow, standIns := [], harness := (true, "3ea0441c4b99ba4a3b2937feb371080cfe5ed5aee1955f810fcb84e861916e0b"), looks := false }, kinds := [], alts := [], laidByText := true, laidKinds := [.data], laidTests := true, laidLooks := .later }
def IsaExecsUptoCardSaid : Prop := Claim7.holds Tryd.pinned (.plain (OpenSpec.upto isaExecsSpec)) isaExecsUptoCard

/-- THE SECOND FORM's CARD OF 'amberlaw07.IsaTells'. -/
def isaTellsUptoCard : Claim7 := { stood := { row := isaTellsUptoRow, standIns := [], harness := (true, "3ea0441c4b99ba4a3b2937feb371080cfe5ed5aee1955f810fcb84e861916e0b"), looks := false }, kinds := [], alts := [], laidByText := true, laidKinds := [.data, .data, .data, .data, .data], laidTests := true, laidLooks := .later }
def IsaTellsUptoCardSaid : Prop := Claim7.holds Tryd.pinned (.plain (OpenSpec.upto isaTellsSpec)) isaTellsUptoCard

/-- THE SECOND FORM's CARD OF 'amberlaw07.IsaJumps'. -/
def isaJumpsUptoCard : Claim7 := { stood := { row := isaJumpsUptoRow, standIns := [], harness := (true, "3ea0441c4b99ba4a3b2937feb371080cfe5ed5aee1955f810fcb84e861916e0b"), looks := false }, kinds := [], alts := [], laidByText := true, laidKinds := [.data, .data, .data, .data, .data, .pinned], laidTests := true, laidLooks := .later }
def IsaJumpsUptoCardSaid : Prop := Claim7.holds Tryd.pinned (.plain (OpenSpec.upto isaJumpsSpec)) isaJumpsUptoCard

/-- THE SECOND FORM's CARD OF 'amberlaw07.IsaBlanks'. -/
def isaBlanksUptoCard : Claim7 := { stood := { row := isaBlanksUptoRow, standIns := [], harness := (true, "3ea0441c4b99ba4a3b2937feb371080cfe5ed5aee1955f810fcb84e861916e0b"), looks := false }, kinds := [], alts := [], laidByText := true, laidKinds := [.data, .data, .pinned], laidTests := true, laidLooks := .later }
def IsaBlanksUptoCardSaid : Prop := Claim7.holds Tryd.pinned (.plain (OpenSpec.upto isaBlanksSpec)) isaBlanksUptoCard

/-- THE SECOND FORM's CARD OF 'amberlaw07.IsaEuclid'. -/
def isaEuclidUptoCard : Claim7 := { stood := { row := isaEuclidUptoRow, standIns := [], harness := (true, "3ea0441c4b99ba4a3b2937feb371080cfe5ed5aee1955f810fcb84e861916e0b"), looks := false }, kinds := [], alts := [], laidByText := true, laidKinds := [.data, .data, .data, .data, .data, .pinned], laidTests := true, laidLooks := .later }
def IsaEuclidUptoCardSaid : Prop := Claim7.holds Tryd.pinned (.plain (OpenSpec.upto isaEuclidSpec)) isaEuclidUptoCard
end Rows
end Go.Proofs.YtfonenigkjngoabDoor
