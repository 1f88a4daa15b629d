/-
  DERIVED. GIVEN WITH THE SEED: THE CARDS: each row of YtphgafidlaombaaDoorRows.lean that lists a variable, with what it lists TIED to the program's text (the seventh form; the later family's looks); each row that meets fmt, with fmt's text TOLD by the authors' own Lean function (tested against real Go, not proved from fmt's source: count such statements apart). THE CARD IS WHAT COUNTS. Prove the row's statement (the work); the ties are given (YtphgafidlaombaaDoorTie.lean); close each card by the builder's one call (the guide's Derived/Test/ToyasCard.lean, 'card_holds'). Laid BY PROGRAM, IN A SANDBOX (cutbox-door.mjs). By AI agents, Wed Nov 11 2026. No macro, syntax, notation, axiom, sorry.
-/
import Derived.Test.YtphgafidlaombaaDoorRows
import GoSem.ClaimSeven
namespace Go.Proofs.YtphgafidlaombaaDoor
namespace Rows

/-- THE TIED CARD OF 'doorkeeperlaw2.ParseBlocks'. -/
def parseBlocksCard : Claim7 := { stood := { row := parseBlocksRow, standIns := [], harness := (true, "88707748c4c6a0d4f5ccb27b014f19d6652d52d8255a59c23de9b848e85b8a8f"), looks := true }, kinds := [], alts := [], laidByText := true, laidKinds := [.data, .data, .data, .sentinel, .sentinel], laidTests := true, laidLooks := .later }
def ParseBlocksCardSaid : Prop := Claim7.holds Tryd.pinned (.plain (OpenSpec.ofChange parseBlocksSpec)) parseBlocksCard

/-- THE TIED CARD OF 'doorkeeperlaw2.ParseRefuses'. -/
def parseRefusesCard : Claim7 := { stood := { row := parseRefusesRow, standIns := [], harness := (true, "88707748c4c6a0d4f5ccb27b014f19d6652d52d8255a59c23de9b848e85b8a8f"), looks := true }, kinds := [], alts := [], laidByText := true, laidKinds := [.data, .data, .data, .sentinel, .sentinel], laidTests := true, laidLooks := .later }
def ParseRefusesCardSaid : Prop := Claim7.holds Tryd.pinned (.plain (OpenSpec.ofChange parseRefusesSpec)) parseRefusesCard

/-- THE SECOND FORM's CARD OF 'doorkeeperlaw2.ParseBlocks'. -/
def parseBlocksUptoCard : Claim7 := { stood := { row := parseBlocksUptoRow, standIns := [], harness := (true, "88707748c4c6a0d4f5ccb27b014f19d6652d52d8255a59c23de9b848e85b8a8f"), looks := true }, kinds := [], alts := [], laidByText := true, laidKinds := [.data, .data, .data, .sentinel, .sentinel], laidTests := true, laidLooks := .later }
def ParseBlocksUptoCardSaid : Prop := Claim7.holds Tryd.pinned (.plain (OpenSpec.upto parseBlocksSpec)) parseBlocksUptoCard

/-- THE SECOND FORM's CARD OF 'doorkeeperlaw2.ParseRefuses'. -/
def parseRefusesUptoCard : Claim7 := { stood := { row := parseRefusesUptoRow, standIns := [], harness := (true, "88707748c4c6a0d4f5ccb27b014f19d6652d52d8255a59c23de9b848e85b8a8f"), looks := true }, kinds := [], alts := [], laidByText := true, laidKinds := [.data, .data, .data, .sentinel, .sentinel], laidTests := true, laidLooks := .later }
def ParseRefusesUptoCardSaid : Prop := Claim7.holds Tryd.pinned (.plain (OpenSpec.upto parseRefusesSpec)) parseRefusesUptoCard
end Rows
end Go.Proofs.YtphgafidlaombaaDoor
