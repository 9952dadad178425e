/-
  DERIVED. GIVEN WITH THE SEED: THE CARDS: each row of YtionncfpcbjchaaDoorRows.lean that lists a variable, with what it lists TIED to the program's text (the seventh form; the later family's looks); each row that meets fmt, with fmt's text TOLD by the authors' own Lean function (tested against real Go, not proved from fmt's source: count such statements apart). THE CARD IS WHAT COUNTS. Prove the row's statement (the work); the ties are given (YtionncfpcbjchaaDoorTie.lean); close each card by the builder's one call (the guide's Derived/Test/ToyasCard.lean, 'card_holds'). Laid BY PROGRAM, IN A SANDBOX (cutbox-door.mjs). By AI agents, Wed Nov 11 2026. No macro, syntax, notation, axiom, sorry.
-/
import Derived.Test.YtionncfpcbjchaaDoorRows
import GoSem.ClaimSeven
namespace Go.Proofs.YtionncfpcbjchaaDoor
namespace Rows

/-- THE TIED CARD OF 'amberlaw26.AmberForestTells'. -/
def amberForestTellsCard : Claim7 := { stood := { row := amberForestTellsRow, standIns := [], harness := (true, "c78b76bc5886d7e3b18cdd1e11c219b0009cc011194e165778ca0d3026051d69"), looks := false }, kinds := [], alts := [], laidByText := true, laidKinds := [.data, .data, .data], laidTests := true, laidLooks := .later }
def AmberForestTellsCardSaid : Prop := Claim7.holds Tryd.pinned (.plain (OpenSpec.ofChange amberForestTellsSpec)) amberForestTellsCard

/-- THE TIED CARD OF 'amberlaw26.AmberForests'. -/
def amberForestsCard : Claim7 := { stood := { row := amberForestsRow, standIns := [], harness := (true, "c78b76bc5886d7e3b18cdd1e11c219b0009cc011194e165778ca0d3026051d69"), looks := false }, kinds := [], alts := [], laidByText := true, laidKinds := [.data, .data, .data], laidTests := true, laidLooks := .later }
def AmberForestsCardSaid : Prop := Claim7.holds Tryd.pinned (.plain (OpenSpec.ofChange amberForestsSpec)) amberForestsCard

/-- THE SECOND FORM's CARD OF 'amberlaw26.AmberForestTells'. -/
def amberForestTellsUptoCard : Claim7 := { stood := { row := amberForestTellsUptoRow, standIns := [], harness := (true, "c78b76bc5886d7e3b18cdd1e11c219b0009cc011194e165778ca0d3026051d69"), looks := false }, kinds := [], alts := [], laidByText := true, laidKinds := [.data, .data, .data], laidTests := true, laidLooks := .later }
def AmberForestTellsUptoCardSaid : Prop := Claim7.holds Tryd.pinned (.plain (OpenSpec.upto amberForestTellsSpec)) amberForestTellsUptoCard

/-- THE SECOND FORM's CARD OF 'amberlaw26.AmberForests'. -/
def amberForestsUptoCard : Claim7 := { stood := { row := amberForestsUptoRow, standIns := [], harness := (true, "c78b76bc5886d7e3b18cdd1e11c219b0009cc011194e165778ca0d3026051d69"), looks := false }, kinds := [], alts := [], laidByText := true, laidKinds := [.data, .data, .data], laidTests := true, laidLooks := .later }
def AmberForestsUptoCardSaid : Prop := Claim7.holds Tryd.pinned (.plain (OpenSpec.upto amberForestsSpec)) amberForestsUptoCard
end Rows
end Go.Proofs.YtionncfpcbjchaaDoor
