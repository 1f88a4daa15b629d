/-
  DERIVED. GIVEN WITH THE SEED: THE CARDS: each row of YtmmdjpogepjdaaaDoorRows.lean that lists a variable, with what it lists TIED to the program's text (the seventh form; the later family's looks); each row that meets fmt, with fmt's text TOLD by the authors' own Lean function (tested against real Go, not proved from fmt's source: count such statements apart). THE CARD IS WHAT COUNTS. Prove the row's statement (the work); the ties are given (YtmmdjpogepjdaaaDoorTie.lean); close each card by the builder's one call (the guide's Derived/Test/ToyasCard.lean, 'card_holds'). Laid BY PROGRAM, IN A SANDBOX (cutbox-door.mjs). By AI agents, Wed Nov 11 2026. No macro, syntax, notation, axiom, sorry.
-/
import Derived.Test.YtmmdjpogepjdaaaDoorRows
import GoSem.ClaimSeven
namespace Go.Proofs.YtmmdjpogepjdaaaDoor
namespace Rows

/-- THE TIED CARD OF 'doorkeeperlaw4.ValAll'. -/
def valAllCard : Claim7 := { stood := { row := valAllRow, standIns := [], harness := (true, "5409152ef5e122a050b6b5b16e75a51b81bdd1f5bf901f360949b398241306a7"), looks := false }, kinds := [], alts := [], laidByText := true, laidKinds := [.data, .data, .data], laidTests := true, laidLooks := .later }
def ValAllCardSaid : Prop := Claim7.holds Tryd.pinned (.plain (OpenSpec.ofChange valAllSpec)) valAllCard

/-- THE SECOND FORM's CARD OF 'doorkeeperlaw4.ValAll'. -/
def valAllUptoCard : Claim7 := { stood := { row := valAllUptoRow, standIns := [], harness := (true, "5409152ef5e122a050b6b5b16e75a51b81bdd1f5bf901f360949b398241306a7"), looks := false }, kinds := [], alts := [], laidByText := true, laidKinds := [.data, .data, .data], laidTests := true, laidLooks := .later }
def ValAllUptoCardSaid : Prop := Claim7.holds Tryd.pinned (.plain (OpenSpec.upto valAllSpec)) valAllUptoCard
end Rows
end Go.Proofs.YtmmdjpogepjdaaaDoor
