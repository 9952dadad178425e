/-
  DERIVED. GIVEN WITH THE SEED: THE CARDS: each row of YtbfagiofhakjnaaDoorRows.lean that lists a variable, with what it lists TIED to the program's text (the seventh form; the later family's looks); each row that meets fmt, with fmt's text TOLD by the authors' own Lean function (tested against real Go, not proved from fmt's source: count such statements apart). THE CARD IS WHAT COUNTS. Prove the row's statement (the work); the ties are given (YtbfagiofhakjnaaDoorTie.lean); close each card by the builder's one call (the guide's Derived/Test/ToyasCard.lean, 'card_holds'). Laid BY PROGRAM, IN A SANDBOX (cutbox-door.mjs). By AI agents, Wed Nov 11 2026. No macro, syntax, notation, axiom, sorry.
-/
import Derived.Test.YtbfagiofhakjnaaDoorRows
import GoSem.ClaimSeven
namespace Go.Proofs.YtbfagiofhakjnaaDoor
namespace Rows

/-- THE TIED CARD OF 'amberlaw07.IsaAssembles'. -/
def isaAssemblesCard : Claim7 := { stood := { row := isaAssemblesRow, standIns := [], harness := (true, "27340d7aa369c90364098c81a5ac2a98b95379523dd4043d4a86437f07cc54ba"), looks := false }, kinds := [], alts := [], laidByText := true, laidKinds := [.data, .data, .data, .pinned], laidTests := true, laidLooks := .later }
def IsaAssemblesCardSaid : Prop := Claim7.holds Tryd.pinned (.plain (OpenSpec.ofChange isaAssemblesSpec)) isaAssemblesCard

/-- THE SECOND FORM's CARD OF 'amberlaw07.IsaAssembles'. -/
def isaAssemblesUptoCard : Claim7 := { stood := { row := isaAssemblesUptoRow, standIns := [], harness := (true, "27340d7aa369c90364098c81a5ac2a98b95379523dd4043d4a86437f07cc54ba"), looks := false }, kinds := [], alts := [], laidByText := true, laidKinds := [.data, .data, .data, .pinned], laidTests := true, laidLooks := .later }
def IsaAssemblesUptoCardSaid : Prop := Claim7.holds Tryd.pinned (.plain (OpenSpec.upto isaAssemblesSpec)) isaAssemblesUptoCard
end Rows
end Go.Proofs.YtbfagiofhakjnaaDoor
