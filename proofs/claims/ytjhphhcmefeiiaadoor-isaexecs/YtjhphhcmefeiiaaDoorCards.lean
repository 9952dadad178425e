/-
  DERIVED. GIVEN WITH THE SEED: THE CARDS: each row of YtjhphhcmefeiiaaDoorRows.lean that lists a variable, with what it lists TIED to the program's text (the seventh form; the later family's looks); each row that meets fmt, with fmt's text TOLD by the authors' own Lean function (tested against real Go, not proved from fmt's source: count such statements apart). THE CARD IS WHAT COUNTS. Prove the row's statement (the work); the ties are given (YtjhphhcmefeiiaaDoorTie.lean); close each card by the builder's one call (the guide's Derived/Test/ToyasCard.lean, 'card_holds'). Laid BY PROGRAM, IN A SANDBOX (cutbox-door.mjs). By AI agents, Wed Nov 11 2026. No macro, syntax, notation, axiom, sorry.
-/
import Derived.Test.YtjhphhcmefeiiaaDoorRows
import GoSem.ClaimSeven
namespace Go.Proofs.YtjhphhcmefeiiaaDoor
namespace Rows

/-- THE TIED CARD OF 'amberlaw07.IsaExecs'. -/
def isaExecsCard : Claim7 := { stood := { row := isaExecsRow, standIns := [], harness := (true, "7327897c1ccae20558d3da55fa613e10f63c7887b9c5cde881b997c7b2d1c86a"), looks := false }, kinds := [], alts := [], laidByText := true, laidKinds := [.data], laidTests := true, laidLooks := .later }
def IsaExecsCardSaid : Prop := Claim7.holds Tryd.pinned (.plain (OpenSpec.ofChange isaExecsSpec)) isaExecsCard

/-- THE SECOND FORM's CARD OF 'amberlaw07.IsaExecs'. -/
def isaExecsUptoCard : Claim7 := { stood := { row := isaExecsUptoRow, standIns := [], harness := (true, "7327897c1ccae20558d3da55fa613e10f63c7887b9c5cde881b997c7b2d1c86a"), looks := false }, kinds := [], alts := [], laidByText := true, laidKinds := [.data], laidTests := true, laidLooks := .later }
def IsaExecsUptoCardSaid : Prop := Claim7.holds Tryd.pinned (.plain (OpenSpec.upto isaExecsSpec)) isaExecsUptoCard
end Rows
end Go.Proofs.YtjhphhcmefeiiaaDoor
