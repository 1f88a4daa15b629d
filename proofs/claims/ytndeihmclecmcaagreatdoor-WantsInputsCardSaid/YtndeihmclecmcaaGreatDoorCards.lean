/-
  DERIVED. GIVEN WITH THE SEED: THE CARDS: each row of YtndeihmclecmcaaGreatDoorRows.lean that lists a variable, with what it lists TIED to the program's text (the seventh form; the later family's looks); each row that meets fmt, with fmt's text TOLD by the authors' own Lean function (tested against real Go, not proved from fmt's source: count such statements apart). THE CARD IS WHAT COUNTS. Prove the row's statement (the work); the ties are given (YtndeihmclecmcaaGreatDoorTie.lean); close each card by the builder's one call (the guide's Derived/Test/ToyasCard.lean, 'card_holds'). Laid BY PROGRAM, IN A SANDBOX (cutbox-door.mjs). By AI agents, Wed Nov 11 2026. No macro, syntax, notation, axiom, sorry.
-/
import Derived.Test.YtndeihmclecmcaaGreatDoorRows
import GoSem.ClaimSeven
namespace Go.Proofs.YtndeihmclecmcaaGreatDoor
namespace Rows

/-- THE TIED CARD OF 'doorkeeperlaw8.WantsInputs'. -/
def wantsInputsCard : Claim7 := { stood := { row := wantsInputsRow, standIns := [], harness := (true, "88b1b5335343099ab2e001218c3e0904951152f9b8e41ee1818409e394ee1111"), looks := true }, kinds := [], alts := [], laidByText := true, laidKinds := [.data, .data, .data, .sentinel, .sentinel], laidTests := true, laidLooks := .later }
def WantsInputsCardSaid : Prop := Claim7.holds Tryz.pinned (.plain (OpenSpec.ofChange wantsInputsSpec)) wantsInputsCard

/-- THE TIED CARD OF 'doorkeeperlaw8.WantsRows'. -/
def wantsRowsCard : Claim7 := { stood := { row := wantsRowsRow, standIns := [], harness := (true, "88b1b5335343099ab2e001218c3e0904951152f9b8e41ee1818409e394ee1111"), looks := true }, kinds := [], alts := [], laidByText := true, laidKinds := [.data, .data, .data, .sentinel, .sentinel], laidTests := true, laidLooks := .later }
def WantsRowsCardSaid : Prop := Claim7.holds Tryz.pinned (.plain (OpenSpec.ofChange wantsRowsSpec)) wantsRowsCard

/-- THE TIED CARD OF 'doorkeeperlaw8.WantsMany'. -/
def wantsManyCard : Claim7 := { stood := { row := wantsManyRow, standIns := [], harness := (true, "88b1b5335343099ab2e001218c3e0904951152f9b8e41ee1818409e394ee1111"), looks := true }, kinds := [], alts := [], laidByText := true, laidKinds := [.data, .data, .data, .sentinel, .sentinel], laidTests := true, laidLooks := .later }
def WantsManyCardSaid : Prop := Claim7.holds Tryz.pinned (.plain (OpenSpec.ofChange wantsManySpec)) wantsManyCard

/-- THE TIED CARD OF 'doorkeeperlaw8.WantsModules'. -/
def wantsModulesCard : Claim7 := { stood := { row := wantsModulesRow, standIns := [], harness := (true, "88b1b5335343099ab2e001218c3e0904951152f9b8e41ee1818409e394ee1111"), looks := true }, kinds := [], alts := [], laidByText := true, laidKinds := [.data, .data, .data, .sentinel, .sentinel], laidTests := true, laidLooks := .later }
def WantsModulesCardSaid : Prop := Claim7.holds Tryz.pinned (.plain (OpenSpec.ofChange wantsModulesSpec)) wantsModulesCard

/-- THE TIED CARD OF 'doorkeeperlaw8.WantsCircle'. -/
def wantsCircleCard : Claim7 := { stood := { row := wantsCircleRow, standIns := [], harness := (true, "88b1b5335343099ab2e001218c3e0904951152f9b8e41ee1818409e394ee1111"), looks := true }, kinds := [], alts := [], laidByText := true, laidKinds := [.data, .data, .data, .sentinel, .sentinel], laidTests := true, laidLooks := .later }
def WantsCircleCardSaid : Prop := Claim7.holds Tryz.pinned (.plain (OpenSpec.ofChange wantsCircleSpec)) wantsCircleCard

/-- THE SECOND FORM's CARD OF 'doorkeeperlaw8.WantsInputs'. -/
def wantsInputsUptoCard : Claim7 := { stood := { row := wantsInputsUptoRow, standIns := [], harness := (true, "88b1b5335343099ab2e001218c3e0904951152f9b8e41ee1818409e394ee1111"), looks := true }, kinds := [], alts := [], laidByText := true, laidKinds := [.data, .data, .data, .sentinel, .sentinel], laidTests := true, laidLooks := .later }
def WantsInputsUptoCardSaid : Prop := Claim7.holds Tryz.pinned (.plain (OpenSpec.upto wantsInputsSpec)) wantsInputsUptoCard

/-- THE SECOND FORM's CARD OF 'doorkeeperlaw8.WantsRows'. -/
def wantsRowsUptoCard : Claim7 := { stood := { row := wantsRowsUptoRow, standIns := [], harness := (true, "88b1b5335343099ab2e001218c3e0904951152f9b8e41ee1818409e394ee1111"), looks := true }, kinds := [], alts := [], laidByText := true, laidKinds := [.data, .data, .data, .sentinel, .sentinel], laidTests := true, laidLooks := .later }
def WantsRowsUptoCardSaid : Prop := Claim7.holds Tryz.pinned (.plain (OpenSpec.upto wantsRowsSpec)) wantsRowsUptoCard

/-- THE SECOND FORM's CARD OF 'doorkeeperlaw8.WantsMany'. -/
def wantsManyUptoCard : Claim7 := { stood := { row := wantsManyUptoRow, standIns := [], harness := (true, "88b1b5335343099ab2e001218c3e0904951152f9b8e41ee1818409e394ee1111"), looks := true }, kinds := [], alts := [], laidByText := true, laidKinds := [.data, .data, .data, .sentinel, .sentinel], laidTests := true, laidLooks := .later }
def WantsManyUptoCardSaid : Prop := Claim7.holds Tryz.pinned (.plain (OpenSpec.upto wantsManySpec)) wantsManyUptoCard

/-- THE SECOND FORM's CARD OF 'doorkeeperlaw8.WantsModules'. -/
def wantsModulesUptoCard : Claim7 := { stood := { row := wantsModulesUptoRow, standIns := [], harness := (true, "88b1b5335343099ab2e001218c3e0904951152f9b8e41ee1818409e394ee1111"), looks := true }, kinds := [], alts := [], laidByText := true, laidKinds := [.data, .data, .data, .sentinel, .sentinel], laidTests := true, laidLooks := .later }
def WantsModulesUptoCardSaid : Prop := Claim7.holds Tryz.pinned (.plain (OpenSpec.upto wantsModulesSpec)) wantsModulesUptoCard

/-- THE SECOND FORM's CARD OF 'doorkeeperlaw8.WantsCircle'. -/
def wantsCircleUptoCard : Claim7 := { stood := { row := wantsCircleUptoRow, standIns := [], harness := (true, "88b1b5335343099ab2e001218c3e0904951152f9b8e41ee1818409e394ee1111"), looks := true }, kinds := [], alts := [], laidByText := true, laidKinds := [.data, .data, .data, .sentinel, .sentinel], laidTests := true, laidLooks := .later }
def WantsCircleUptoCardSaid : Prop := Claim7.holds Tryz.pinned (.plain (OpenSpec.upto wantsCircleSpec)) wantsCircleUptoCard
end Rows
end Go.Proofs.YtndeihmclecmcaaGreatDoor
