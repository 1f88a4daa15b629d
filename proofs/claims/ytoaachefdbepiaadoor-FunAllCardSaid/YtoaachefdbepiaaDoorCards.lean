/-
  DERIVED. GIVEN WITH THE SEED: THE CARDS: each row of YtoaachefdbepiaaDoorRows.lean that lists a variable, with what it lists TIED to the program's text (the seventh form; the later family's looks); each row that meets fmt, with fmt's text TOLD by the authors' own Lean function (tested against real Go, not proved from fmt's source: count such statements apart). THE CARD IS WHAT COUNTS. Prove the row's statement (the work); the ties are given (YtoaachefdbepiaaDoorTie.lean); close each card by the builder's one call (the guide's Derived/Test/ToyasCard.lean, 'card_holds'). Laid BY PROGRAM, IN A SANDBOX (cutbox-door.mjs). By AI agents, Wed Nov 11 2026. No macro, syntax, notation, axiom, sorry.
-/
import Derived.Test.YtoaachefdbepiaaDoorRows
import GoSem.ClaimSeven
namespace Go.Proofs.YtoaachefdbepiaaDoor
namespace Rows

/-- THE TIED CARD OF 'doorkeeperlaw5.FunAll'. -/
def funAllCard : Claim7 := { stood := { row := funAllRow, standIns := [], harness := (true, "42d19020b048156f967619ae76b03e8ed6949a255778f7b75fa7d662ce31a142"), looks := false }, kinds := [], alts := [], laidByText := true, laidKinds := [.data, .data, .data], laidTests := true, laidLooks := .later }
def FunAllCardSaid : Prop := Claim7.holds Tryd.pinned (.plain (OpenSpec.ofChange funAllSpec)) funAllCard

/-- THE SECOND FORM's CARD OF 'doorkeeperlaw5.FunAll'. -/
def funAllUptoCard : Claim7 := { stood := { row := funAllUptoRow, standIns := [], harness := (true, "42d19020b048156f967619ae76b03e8ed6949a255778f7b75fa7d662ce31a142"), looks := false }, kinds := [], alts := [], laidByText := true, laidKinds := [.data, .data, .data], laidTests := true, laidLooks := .later }
def FunAllUptoCardSaid : Prop := Claim7.holds Tryd.pinned (.plain (OpenSpec.upto funAllSpec)) funAllUptoCard
end Rows
end Go.Proofs.YtoaachefdbepiaaDoor
