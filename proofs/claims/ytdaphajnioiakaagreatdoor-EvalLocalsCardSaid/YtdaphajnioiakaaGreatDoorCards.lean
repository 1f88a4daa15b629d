/-
  DERIVED. GIVEN WITH THE SEED: THE CARDS: each row of YtdaphajnioiakaaGreatDoorRows.lean that lists a variable, with what it lists TIED to the program's text (the seventh form; the later family's looks); each row that meets fmt, with fmt's text TOLD by the authors' own Lean function (tested against real Go, not proved from fmt's source: count such statements apart). THE CARD IS WHAT COUNTS. Prove the row's statement (the work); the ties are given (YtdaphajnioiakaaGreatDoorTie.lean); close each card by the builder's one call (the guide's Derived/Test/ToyasCard.lean, 'card_holds'). Laid BY PROGRAM, IN A SANDBOX (cutbox-door.mjs). By AI agents, Wed Nov 11 2026. No macro, syntax, notation, axiom, sorry.
-/
import Derived.Test.YtdaphajnioiakaaGreatDoorRows
import GoSem.ClaimSeven
namespace Go.Proofs.YtdaphajnioiakaaGreatDoor
namespace Rows

/-- THE TIED CARD OF 'doorkeeperlaw6.RefsOrder'. -/
def refsOrderCard : Claim7 := { stood := { row := refsOrderRow, standIns := [], harness := (true, "4862fb0a79d6c8a877add8b8ba2947a796bf3f0093103d3525f7063451291586"), looks := true }, kinds := [], alts := [], laidByText := true, laidKinds := [.data, .data, .data, .sentinel, .sentinel], laidTests := true, laidLooks := .later }
def RefsOrderCardSaid : Prop := Claim7.holds Tryz.pinned (.plain (OpenSpec.ofChange refsOrderSpec)) refsOrderCard

/-- THE TIED CARD OF 'doorkeeperlaw6.RefsCircle'. -/
def refsCircleCard : Claim7 := { stood := { row := refsCircleRow, standIns := [], harness := (true, "4862fb0a79d6c8a877add8b8ba2947a796bf3f0093103d3525f7063451291586"), looks := true }, kinds := [], alts := [], laidByText := true, laidKinds := [.data, .data, .data, .sentinel, .sentinel], laidTests := true, laidLooks := .later }
def RefsCircleCardSaid : Prop := Claim7.holds Tryz.pinned (.plain (OpenSpec.ofChange refsCircleSpec)) refsCircleCard

/-- THE TIED CARD OF 'doorkeeperlaw7.EvalLocals'. -/
def evalLocalsCard : Claim7 := { stood := { row := evalLocalsRow, standIns := [], harness := (true, "4862fb0a79d6c8a877add8b8ba2947a796bf3f0093103d3525f7063451291586"), looks := true }, kinds := [], alts := [], laidByText := true, laidKinds := [.data, .data, .data, .sentinel, .sentinel], laidTests := true, laidLooks := .later }
def EvalLocalsCardSaid : Prop := Claim7.holds Tryz.pinned (.plain (OpenSpec.ofChange evalLocalsSpec)) evalLocalsCard

/-- THE SECOND FORM's CARD OF 'doorkeeperlaw6.RefsOrder'. -/
def refsOrderUptoCard : Claim7 := { stood := { row := refsOrderUptoRow, standIns := [], harness := (true, "4862fb0a79d6c8a877add8b8ba2947a796bf3f0093103d3525f7063451291586"), looks := true }, kinds := [], alts := [], laidByText := true, laidKinds := [.data, .data, .data, .sentinel, .sentinel], laidTests := true, laidLooks := .later }
def RefsOrderUptoCardSaid : Prop := Claim7.holds Tryz.pinned (.plain (OpenSpec.upto refsOrderSpec)) refsOrderUptoCard

/-- THE SECOND FORM's CARD OF 'doorkeeperlaw6.RefsCircle'. -/
def refsCircleUptoCard : Claim7 := { stood := { row := refsCircleUptoRow, standIns := [], harness := (true, "4862fb0a79d6c8a877add8b8ba2947a796bf3f0093103d3525f7063451291586"), looks := true }, kinds := [], alts := [], laidByText := true, laidKinds := [.data, .data, .data, .sentinel, .sentinel], laidTests := true, laidLooks := .later }
def RefsCircleUptoCardSaid : Prop := Claim7.holds Tryz.pinned (.plain (OpenSpec.upto refsCircleSpec)) refsCircleUptoCard

/-- THE SECOND FORM's CARD OF 'doorkeeperlaw7.EvalLocals'. -/
def evalLocalsUptoCard : Claim7 := { stood := { row := evalLocalsUptoRow, standIns := [], harness := (true, "4862fb0a79d6c8a877add8b8ba2947a796bf3f0093103d3525f7063451291586"), looks := true }, kinds := [], alts := [], laidByText := true, laidKinds := [.data, .data, .data, .sentinel, .sentinel], laidTests := true, laidLooks := .later }
def EvalLocalsUptoCardSaid : Prop := Claim7.holds Tryz.pinned (.plain (OpenSpec.upto evalLocalsSpec)) evalLocalsUptoCard
end Rows
end Go.Proofs.YtdaphajnioiakaaGreatDoor
