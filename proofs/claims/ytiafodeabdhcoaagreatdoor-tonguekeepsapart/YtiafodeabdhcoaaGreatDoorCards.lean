/-
  DERIVED. GIVEN WITH THE SEED: THE CARDS: each row of YtiafodeabdhcoaaGreatDoorRows.lean that lists a variable, with what it lists TIED to the program's text (the seventh form; the later family's looks); each row that meets fmt, with fmt's text TOLD by the authors' own Lean function (tested against real Go, not proved from fmt's source: count such statements apart). THE CARD IS WHAT COUNTS. Prove the row's statement (the work); the ties are given (YtiafodeabdhcoaaGreatDoorTie.lean); close each card by the builder's one call (the guide's Derived/Test/ToyasCard.lean, 'card_holds'). Laid BY PROGRAM, IN A SANDBOX (cutbox-door.mjs). By AI agents, Wed Nov 11 2026. No macro, syntax, notation, axiom, sorry.
-/
import Derived.Test.YtiafodeabdhcoaaGreatDoorRows
import GoSem.ClaimSeven
namespace Go.Proofs.YtiafodeabdhcoaaGreatDoor
namespace Rows

/-- THE TIED CARD OF 'amberlaw23.TongueRests'. -/
def tongueRestsCard : Claim7 := { stood := { row := tongueRestsRow, standIns := [], harness := (true, "15ad9366df49ed2fbf2552ffa0409442fedfb0fc39a75b364be565048ccbae34"), looks := false }, kinds := [], alts := [], laidByText := true, laidKinds := [.data, .data, .data, .data, .data, .data, .data, .pinned], laidTests := true, laidLooks := .later }
def TongueRestsCardSaid : Prop := Claim7.holds Tryz.pinned (.plain (OpenSpec.ofChange tongueRestsSpec)) tongueRestsCard

/-- THE TIED CARD OF 'amberlaw23.TongueCountsDown'. -/
def tongueCountsDownCard : Claim7 := { stood := { row := tongueCountsDownRow, standIns := [], harness := (true, "15ad9366df49ed2fbf2552ffa0409442fedfb0fc39a75b364be565048ccbae34"), looks := false }, kinds := [], alts := [], laidByText := true, laidKinds := [.data, .data, .data, .data, .data, .data, .data, .pinned], laidTests := true, laidLooks := .later }
def TongueCountsDownCardSaid : Prop := Claim7.holds Tryz.pinned (.plain (OpenSpec.ofChange tongueCountsDownSpec)) tongueCountsDownCard

/-- THE TIED CARD OF 'amberlaw23.TongueReckons'. -/
def tongueReckonsCard : Claim7 := { stood := { row := tongueReckonsRow, standIns := [], harness := (true, "15ad9366df49ed2fbf2552ffa0409442fedfb0fc39a75b364be565048ccbae34"), looks := false }, kinds := [], alts := [], laidByText := true, laidKinds := [.data, .data, .data, .data, .data, .data, .data, .pinned], laidTests := true, laidLooks := .later }
def TongueReckonsCardSaid : Prop := Claim7.holds Tryz.pinned (.plain (OpenSpec.ofChange tongueReckonsSpec)) tongueReckonsCard

/-- THE TIED CARD OF 'amberlaw23.TongueKeepsApart'. -/
def tongueKeepsApartCard : Claim7 := { stood := { row := tongueKeepsApartRow, standIns := [], harness := (true, "15ad9366df49ed2fbf2552ffa0409442fedfb0fc39a75b364be565048ccbae34"), looks := false }, kinds := [], alts := [], laidByText := true, laidKinds := [.data, .data, .data, .data, .data, .data, .data, .pinned], laidTests := true, laidLooks := .later }
def TongueKeepsApartCardSaid : Prop := Claim7.holds Tryz.pinned (.plain (OpenSpec.ofChange tongueKeepsApartSpec)) tongueKeepsApartCard

/-- THE SECOND FORM's CARD OF 'amberlaw23.TongueRests'. -/
def tongueRestsUptoCard : Claim7 := { stood := { row := tongueRestsUptoRow, standIns := [], harness := (true, "15ad9366df49ed2fbf2552ffa0409442fedfb0fc39a75b364be565048ccbae34"), looks := false }, kinds := [], alts := [], laidByText := true, laidKinds := [.data, .data, .data, .data, .data, .data, .data, .pinned], laidTests := true, laidLooks := .later }
def TongueRestsUptoCardSaid : Prop := Claim7.holds Tryz.pinned (.plain (OpenSpec.upto tongueRestsSpec)) tongueRestsUptoCard

/-- THE SECOND FORM's CARD OF 'amberlaw23.TongueCountsDown'. -/
def tongueCountsDownUptoCard : Claim7 := { stood := { row := tongueCountsDownUptoRow, standIns := [], harness := (true, "15ad9366df49ed2fbf2552ffa0409442fedfb0fc39a75b364be565048ccbae34"), looks := false }, kinds := [], alts := [], laidByText := true, laidKinds := [.data, .data, .data, .data, .data, .data, .data, .pinned], laidTests := true, laidLooks := .later }
def TongueCountsDownUptoCardSaid : Prop := Claim7.holds Tryz.pinned (.plain (OpenSpec.upto tongueCountsDownSpec)) tongueCountsDownUptoCard

/-- THE SECOND FORM's CARD OF 'amberlaw23.TongueReckons'. -/
def tongueReckonsUptoCard : Claim7 := { stood := { row := tongueReckonsUptoRow, standIns := [], harness := (true, "15ad9366df49ed2fbf2552ffa0409442fedfb0fc39a75b364be565048ccbae34"), looks := false }, kinds := [], alts := [], laidByText := true, laidKinds := [.data, .data, .data, .data, .data, .data, .data, .pinned], laidTests := true, laidLooks := .later }
def TongueReckonsUptoCardSaid : Prop := Claim7.holds Tryz.pinned (.plain (OpenSpec.upto tongueReckonsSpec)) tongueReckonsUptoCard

/-- THE SECOND FORM's CARD OF 'amberlaw23.TongueKeepsApart'. -/
def tongueKeepsApartUptoCard : Claim7 := { stood := { row := tongueKeepsApartUptoRow, standIns := [], harness := (true, "15ad9366df49ed2fbf2552ffa0409442fedfb0fc39a75b364be565048ccbae34"), looks := false }, kinds := [], alts := [], laidByText := true, laidKinds := [.data, .data, .data, .data, .data, .data, .data, .pinned], laidTests := true, laidLooks := .later }
def TongueKeepsApartUptoCardSaid : Prop := Claim7.holds Tryz.pinned (.plain (OpenSpec.upto tongueKeepsApartSpec)) tongueKeepsApartUptoCard
end Rows
end Go.Proofs.YtiafodeabdhcoaaGreatDoor
