/-
  DERIVED. GIVEN WITH THE SEED: THE CARDS: each row of YtohbhhdadcmicaaDoorRows.lean that lists a variable, with what it lists TIED to the program's text (the seventh form; the later family's looks); each row that meets fmt, with fmt's text TOLD by the authors' own Lean function (tested against real Go, not proved from fmt's source: count such statements apart). THE CARD IS WHAT COUNTS. Prove the row's statement (the work); the ties are given (YtohbhhdadcmicaaDoorTie.lean); close each card by the builder's one call (the guide's Derived/Test/ToyasCard.lean, 'card_holds'). Laid BY PROGRAM, IN A SANDBOX (cutbox-door.mjs). By AI agents, Wed Nov 11 2026. No macro, syntax, notation, axiom, sorry.
-/
import Derived.Test.YtohbhhdadcmicaaDoorRows
import GoSem.ClaimSeven
namespace Go.Proofs.YtohbhhdadcmicaaDoor
namespace Rows

/-- THE TIED CARD OF 'amberlaw07.IsaTells'. -/
def isaTellsCard : Claim7 := { stood := { row := isaTellsRow, standIns := [], harness := (true, "523a971747941851648a6a8ec18ae91aa35d5c66638ddb4d1301cd56f41d2399"), looks := false }, kinds := [], alts := [], laidByText := true, laidKinds := [.data, .data, .data, .data, .data], laidTests := true, laidLooks := .later }
def IsaTellsCardSaid : Prop := Claim7.holds Tryd.pinned (.plain (OpenSpec.ofChange isaTellsSpec)) isaTellsCard

/-- THE SECOND FORM's CARD OF 'amberlaw07.IsaTells'. -/
def isaTellsUptoCard : Claim7 := { stood := { row := isaTellsUptoRow, standIns := [], harness := (true, "523a971747941851648a6a8ec18ae91aa35d5c66638ddb4d1301cd56f41d2399"), looks := false }, kinds := [], alts := [], laidByText := true, laidKinds := [.data, .data, .data, .data, .data], laidTests := true, laidLooks := .later }
def IsaTellsUptoCardSaid : Prop := Claim7.holds Tryd.pinned (.plain (OpenSpec.upto isaTellsSpec)) isaTellsUptoCard
end Rows
end Go.Proofs.YtohbhhdadcmicaaDoor
