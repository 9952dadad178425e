/-
  DERIVED. GIVEN WITH THE SEED: THE CARDS: each row of YtfonenigkjngoaaDoorRows.lean that lists a variable, with what it lists TIED to the program's text (the seventh form; the later family's looks); each row that meets fmt, with fmt's text TOLD by the authors' own Lean function (tested against real Go, not proved from fmt's source: count such statements apart). THE CARD IS WHAT COUNTS. Prove the row's statement (the work); the ties are given (YtfonenigkjngoaaDoorTie.lean); close each card by the builder's one call (the guide's Derived/Test/ToyasCard.lean, 'card_holds'). Laid BY PROGRAM, IN A SANDBOX (cutbox-door.mjs). By AI agents, Wed Nov 11 2026. No macro, syntax, notation, axiom, sorry.
-/
import Derived.Test.YtfonenigkjngoaaDoorRows
import GoSem.ClaimSeven
namespace Go.Proofs.YtfonenigkjngoaaDoor
namespace Rows

/-- THE TIED CARD OF 'amberlaw07.IsaEncodes'. -/
def isaEncodesCard : Claim7 := { stood := { row := isaEncodesRow, standIns := [], harness := (true, "c6101df7e49f13fc04b9bbe2593fbd090402af7608dcc808e6701e20556548f9"), looks := false }, kinds := [], alts := [], laidByText := true, laidKinds := [.data], laidTests := true, laidLooks := .later }
def IsaEncodesCardSaid : Prop := Claim7.holds Tryd.pinned (.plain (OpenSpec.ofChange isaEncodesSpec)) isaEncodesCard

/-- THE TIED CARD OF 'amberlaw07.IsaBack'. -/
def isaBackCard : Claim7 := { stood := { row := isaBackRow, standIns := [], harness := (true, "c6101df7e49f13fc04b9bbe2593fbd090402af7608dcc808e6701e20556548f9"), looks := false }, kinds := [], alts := [], laidByText := true, laidKinds := [.data], laidTests := true, laidLooks := .later }
def IsaBackCardSaid : Prop := Claim7.holds Tryd.pinned (.plain (OpenSpec.ofChange isaBackSpec)) isaBackCard

/-- THE TIED CARD OF 'amberlaw07.IsaSteps'. -/
def isaStepsCard : Claim7 := { stood := { row := isaStepsRow, standIns := [], harness := (true, "c6101df7e49f13fc04b9bbe2593fbd090402af7608dcc808e6701e20556548f9"), looks := false }, kinds := [], alts := [], laidByText := true, laidKinds := [.data], laidTests := true, laidLooks := .later }
def IsaStepsCardSaid : Prop := Claim7.holds Tryd.pinned (.plain (OpenSpec.ofChange isaStepsSpec)) isaStepsCard

/-- THE TIED CARD OF 'amberlaw07.IsaCodes'. -/
def isaCodesCard : Claim7 := { stood := { row := isaCodesRow, standIns := [], harness := (true, "c6101df7e49f13fc04b9bbe2593fbd090402af7608dcc808e6701e20556548f9"), looks := false }, kinds := [], alts := [], laidByText := true, laidKinds := [.data], laidTests := true, laidLooks := .later }
def IsaCodesCardSaid : Prop := Claim7.holds Tryd.pinned (.plain (OpenSpec.ofChange isaCodesSpec)) isaCodesCard

/-- THE TIED CARD OF 'amberlaw07.IsaReckons'. -/
def isaReckonsCard : Claim7 := { stood := { row := isaReckonsRow, standIns := [], harness := (true, "c6101df7e49f13fc04b9bbe2593fbd090402af7608dcc808e6701e20556548f9"), looks := false }, kinds := [], alts := [], laidByText := true, laidKinds := [.data], laidTests := true, laidLooks := .later }
def IsaReckonsCardSaid : Prop := Claim7.holds Tryd.pinned (.plain (OpenSpec.ofChange isaReckonsSpec)) isaReckonsCard

/-- THE SECOND FORM's CARD OF 'amberlaw07.IsaEncodes'. -/
def isaEncodesUptoCard : Claim7 := { stood := { row := isaEncodesUptoRow, standIns := [], harness := (true, "c6101df7e49f13fc04b9bbe2593fbd090402af7608dcc808e6701e20556548f9"), looks := false }, kinds := [], alts := [], laidByText := true, laidKinds := [.data], laidTests := true, laidLooks := .later }
def IsaEncodesUptoCardSaid : Prop := Claim7.holds Tryd.pinned (.plain (OpenSpec.upto isaEncodesSpec)) isaEncodesUptoCard

/-- THE SECOND FORM's CARD OF 'amberlaw07.IsaBack'. -/
def isaBackUptoCard : Claim7 := { stood := { row := isaBackUptoRow, standIns := [], harness := (true, "c6101df7e49f13fc04b9bbe2593fbd090402af7608dcc808e6701e20556548f9"), looks := false }, kinds := [], alts := [], laidByText := true, laidKinds := [.data], laidTests := true, laidLooks := .later }
def IsaBackUptoCardSaid : Prop := Claim7.holds Tryd.pinned (.plain (OpenSpec.upto isaBackSpec)) isaBackUptoCard

/-- THE SECOND FORM's CARD OF 'amberlaw07.IsaSteps'. -/
def isaStepsUptoCard : Claim7 := { stood := { row := isaStepsUptoRow, standIns := [], harness := (true, "c6101df7e49f13fc04b9bbe2593fbd090402af7608dcc808e6701e20556548f9"), looks := false }, kinds := [], alts := [], laidByText := true, laidKinds := [.data], laidTests := true, laidLooks := .later }
def IsaStepsUptoCardSaid : Prop := Claim7.holds Tryd.pinned (.plain (OpenSpec.upto isaStepsSpec)) isaStepsUptoCard

/-- THE SECOND FORM's CARD OF 'amberlaw07.IsaCodes'. -/
def isaCodesUptoCard : Claim7 := { stood := { row := isaCodesUptoRow, standIns := [], harness := (true, "c6101df7e49f13fc04b9bbe2593fbd090402af7608dcc808e6701e20556548f9"), looks := false }, kinds := [], alts := [], laidByText := true, laidKinds := [.data], laidTests := true, laidLooks := .later }
def IsaCodesUptoCardSaid : Prop := Claim7.holds Tryd.pinned (.plain (OpenSpec.upto isaCodesSpec)) isaCodesUptoCard

/-- THE SECOND FORM's CARD OF 'amberlaw07.IsaReckons'. -/
def isaReckonsUptoCard : Claim7 := { stood := { row := isaReckonsUptoRow, standIns := [], harness := (true, "c6101df7e49f13fc04b9bbe2593fbd090402af7608dcc808e6701e20556548f9"), looks := false }, kinds := [], alts := [], laidByText := true, laidKinds := [.data], laidTests := true, laidLooks := .later }
def IsaReckonsUptoCardSaid : Prop := Claim7.holds Tryd.pinned (.plain (OpenSpec.upto isaReckonsSpec)) isaReckonsUptoCard
end Rows
end Go.Proofs.YtfonenigkjngoaaDoor
