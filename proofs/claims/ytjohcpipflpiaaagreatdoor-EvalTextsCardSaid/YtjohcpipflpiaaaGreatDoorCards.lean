/-
  DERIVED. GIVEN WITH THE SEED: THE CARDS: each row of YtjohcpipflpiaaaGreatDoorRows.lean that lists a variable, with what it lists TIED to the program's text (the seventh form; the later family's looks); each row that meets fmt, with fmt's text TOLD by the authors' own Lean function (tested against real Go, not proved from fmt's source: count such statements apart). THE CARD IS WHAT COUNTS. Prove the row's statement (the work); the ties are given (YtjohcpipflpiaaaGreatDoorTie.lean); close each card by the builder's one call (the guide's Derived/Test/ToyasCard.lean, 'card_holds'). Laid BY PROGRAM, IN A SANDBOX (cutbox-door.mjs). By AI agents, Wed Nov 11 2026. No macro, syntax, notation, axiom, sorry.
-/
import Derived.Test.YtjohcpipflpiaaaGreatDoorRows
import GoSem.ClaimSeven
namespace Go.Proofs.YtjohcpipflpiaaaGreatDoor
namespace Rows

/-- THE TIED CARD OF 'doorkeeperlaw6.RefsOrder'. -/
def refsOrderCard : Claim7 := { stood := { row := refsOrderRow, standIns := [], harness := (true, "196cc1c23703dc3be051183893d879041fd2f07f46346bc83c116038874224e4"), looks := true }, kinds := [], alts := [], laidByText := true, laidKinds := [.data, .data, .data, .sentinel, .sentinel], laidTests := true, laidLooks := .later }
def RefsOrderCardSaid : Prop := Claim7.holds Tryz.pinned (.plain (OpenSpec.ofChange refsOrderSpec)) refsOrderCard

/-- THE TIED CARD OF 'doorkeeperlaw6.RefsCircle'. -/
def refsCircleCard : Claim7 := { stood := { row := refsCircleRow, standIns := [], harness := (true, "196cc1c23703dc3be051183893d879041fd2f07f46346bc83c116038874224e4"), looks := true }, kinds := [], alts := [], laidByText := true, laidKinds := [.data, .data, .data, .sentinel, .sentinel], laidTests := true, laidLooks := .later }
def RefsCircleCardSaid : Prop := Claim7.holds Tryz.pinned (.plain (OpenSpec.ofChange refsCircleSpec)) refsCircleCard

/-- THE TIED CARD OF 'doorkeeperlaw7.EvalBinds'. -/
def evalBindsCard : Claim7 := { stood := { row := evalBindsRow, standIns := [], harness := (true, "196cc1c23703dc3be051183893d879041fd2f07f46346bc83c116038874224e4"), looks := true }, kinds := [], alts := [], laidByText := true, laidKinds := [.data, .data, .data, .sentinel, .sentinel], laidTests := true, laidLooks := .later }
def EvalBindsCardSaid : Prop := Claim7.holds Tryz.pinned (.plain (OpenSpec.ofChange evalBindsSpec)) evalBindsCard

/-- THE TIED CARD OF 'doorkeeperlaw7.EvalTexts'. -/
def evalTextsCard : Claim7 := { stood := { row := evalTextsRow, standIns := [], harness := (true, "196cc1c23703dc3be051183893d879041fd2f07f46346bc83c116038874224e4"), looks := true }, kinds := [], alts := [], laidByText := true, laidKinds := [.data, .data, .data, .sentinel, .sentinel], laidTests := true, laidLooks := .later }
def EvalTextsCardSaid : Prop := Claim7.holds Tryz.pinned (.plain (OpenSpec.ofChange evalTextsSpec)) evalTextsCard

/-- THE SECOND FORM's CARD OF 'doorkeeperlaw6.RefsOrder'. -/
def refsOrderUptoCard : Claim7 := { stood := { row := refsOrderUptoRow, standIns := [], harness := (true, "196cc1c23703dc3be051183893d879041fd2f07f46346bc83c116038874224e4"), looks := true }, kinds := [], alts := [], laidByText := true, laidKinds := [.data, .data, .data, .sentinel, .sentinel], laidTests := true, laidLooks := .later }
def RefsOrderUptoCardSaid : Prop := Claim7.holds Tryz.pinned (.plain (OpenSpec.upto refsOrderSpec)) refsOrderUptoCard

/-- THE SECOND FORM's CARD OF 'doorkeeperlaw6.RefsCircle'. -/
def refsCircleUptoCard : Claim7 := { stood := { row := refsCircleUptoRow, standIns := [], harness := (true, "196cc1c23703dc3be051183893d879041fd2f07f46346bc83c116038874224e4"), looks := true }, kinds := [], alts := [], laidByText := true, laidKinds := [.data, .data, .data, .sentinel, .sentinel], laidTests := true, laidLooks := .later }
def RefsCircleUptoCardSaid : Prop := Claim7.holds Tryz.pinned (.plain (OpenSpec.upto refsCircleSpec)) refsCircleUptoCard

/-- THE SECOND FORM's CARD OF 'doorkeeperlaw7.EvalBinds'. -/
def evalBindsUptoCard : Claim7 := { stood := { row := evalBindsUptoRow, standIns := [], harness := (true, "196cc1c23703dc3be051183893d879041fd2f07f46346bc83c116038874224e4"), looks := true }, kinds := [], alts := [], laidByText := true, laidKinds := [.data, .data, .data, .sentinel, .sentinel], laidTests := true, laidLooks := .later }
def EvalBindsUptoCardSaid : Prop := Claim7.holds Tryz.pinned (.plain (OpenSpec.upto evalBindsSpec)) evalBindsUptoCard

/-- THE SECOND FORM's CARD OF 'doorkeeperlaw7.EvalTexts'. -/
def evalTextsUptoCard : Claim7 := { stood := { row := evalTextsUptoRow, standIns := [], harness := (true, "196cc1c23703dc3be051183893d879041fd2f07f46346bc83c116038874224e4"), looks := true }, kinds := [], alts := [], laidByText := true, laidKinds := [.data, .data, .data, .sentinel, .sentinel], laidTests := true, laidLooks := .later }
def EvalTextsUptoCardSaid : Prop := Claim7.holds Tryz.pinned (.plain (OpenSpec.upto evalTextsSpec)) evalTextsUptoCard
end Rows
end Go.Proofs.YtjohcpipflpiaaaGreatDoor
