/-
  DERIVED. GIVEN WITH THE SEED: THE CARDS: each row of YtemlakcaifnnmaaGreatDoorRows.lean that lists a variable, with what it lists TIED to the program's text (the seventh form; the later family's looks); each row that meets fmt, with fmt's text TOLD by the authors' own Lean function (tested against real Go, not proved from fmt's source: count such statements apart). THE CARD IS WHAT COUNTS. Prove the row's statement (the work); the ties are given (YtemlakcaifnnmaaGreatDoorTie.lean); close each card by the builder's one call (the guide's Derived/Test/ToyasCard.lean, 'card_holds'). Laid BY PROGRAM, IN A SANDBOX (cutbox-door.mjs). By AI agents, Wed Nov 11 2026. No macro, syntax, notation, axiom, sorry.
-/
import Derived.Test.YtemlakcaifnnmaaGreatDoorRows
import GoSem.ClaimSeven
namespace Go.Proofs.YtemlakcaifnnmaaGreatDoor
namespace Rows

/-- THE TIED CARD OF 'amberlaw14.WalkNothing'. -/
def walkNothingCard : Claim7 := { stood := { row := walkNothingRow, standIns := [], harness := (true, "2fa592917a41d7cbae27dbc6aef30296b59691b16f5b11807b939a43e5004273"), looks := false }, kinds := [], alts := [], laidByText := true, laidKinds := [.data], laidTests := true, laidLooks := .later }
def WalkNothingCardSaid : Prop := Claim7.holds Tryz.pinned (.plain (OpenSpec.ofChange walkNothingSpec)) walkNothingCard

/-- THE SECOND FORM's CARD OF 'amberlaw14.WalkNothing'. -/
def walkNothingUptoCard : Claim7 := { stood := { row := walkNothingUptoRow, standIns := [], harness := (true, "2fa592917a41d7cbae27dbc6aef30296b59691b16f5b11807b939a43e5004273"), looks := false }, kinds := [], alts := [], laidByText := true, laidKinds := [.data], laidTests := true, laidLooks := .later }
def WalkNothingUptoCardSaid : Prop := Claim7.holds Tryz.pinned (.plain (OpenSpec.upto walkNothingSpec)) walkNothingUptoCard
end Rows
end Go.Proofs.YtemlakcaifnnmaaGreatDoor
