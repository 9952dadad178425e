/-
  DERIVED. GIVEN WITH THE SEED: THE CARDS: each row of YtgacfdnnmlmgaaaDoorRows.lean that lists a variable, with what it lists TIED to the program's text (the seventh form; the later family's looks); each row that meets fmt, with fmt's text TOLD by the authors' own Lean function (tested against real Go, not proved from fmt's source: count such statements apart). THE CARD IS WHAT COUNTS. Prove the row's statement (the work); the ties are given (YtgacfdnnmlmgaaaDoorTie.lean); close each card by the builder's one call (the guide's Derived/Test/ToyasCard.lean, 'card_holds'). Laid BY PROGRAM, IN A SANDBOX (cutbox-door.mjs). By AI agents, Wed Nov 11 2026. No macro, syntax, notation, axiom, sorry.
-/
import Derived.Test.YtgacfdnnmlmgaaaDoorRows
import GoSem.ClaimSeven
namespace Go.Proofs.YtgacfdnnmlmgaaaDoor
namespace Rows

/-- THE TIED CARD OF 'amberlaw11.GateNames'. -/
def gateNamesCard : Claim7 := { stood := { row := gateNamesRow, standIns := [], harness := (true, "267a3c7e1e513a1c33b06086bde589366c63dfa3b9b5b315a957484a2f92fa5f"), looks := false }, kinds := [], alts := [], laidByText := true, laidKinds := [.data], laidTests := true, laidLooks := .later }
def GateNamesCardSaid : Prop := Claim7.holds Tryd.pinned (.plain (OpenSpec.ofChange gateNamesSpec)) gateNamesCard

/-- THE SECOND FORM's CARD OF 'amberlaw11.GateNames'. -/
def gateNamesUptoCard : Claim7 := { stood := { row := gateNamesUptoRow, standIns := [], harness := (true, "267a3c7e1e513a1c33b06086bde589366c63dfa3b9b5b315a957484a2f92fa5f"), looks := false }, kinds := [], alts := [], laidByText := true, laidKinds := [.data], laidTests := true, laidLooks := .later }
def GateNamesUptoCardSaid : Prop := Claim7.holds Tryd.pinned (.plain (OpenSpec.upto gateNamesSpec)) gateNamesUptoCard
end Rows
end Go.Proofs.YtgacfdnnmlmgaaaDoor
