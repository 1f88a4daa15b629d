/-
  DERIVED. GIVEN WITH THE SEED: THE CARDS: each row of YtfefkbmpkggocaaDoorRows.lean that lists a variable, with what it lists TIED to the program's text (the seventh form; the later family's looks); each row that meets fmt, with fmt's text TOLD by the authors' own Lean function (tested against real Go, not proved from fmt's source: count such statements apart). THE CARD IS WHAT COUNTS. Prove the row's statement (the work); the ties are given (YtfefkbmpkggocaaDoorTie.lean); close each card by the builder's one call (the guide's Derived/Test/ToyasCard.lean, 'card_holds'). Laid BY PROGRAM, IN A SANDBOX (cutbox-door.mjs). By AI agents, Wed Nov 11 2026. No macro, syntax, notation, axiom, sorry.
-/
import Derived.Test.YtfefkbmpkggocaaDoorRows
import GoSem.ClaimSeven
namespace Go.Proofs.YtfefkbmpkggocaaDoor
namespace Rows

/-- THE TIED CARD OF 'doorkeeperlaw4.ValAll'. -/
def valAllCard : Claim7 := { stood := { row := valAllRow, standIns := [], harness := (true, "828624c53c90e5b8d3b35c4a669ed2301b14a72a1d668f541d32a8b33ed594da"), looks := false }, kinds := [], alts := [], laidByText := true, laidKinds := [.data, .data, .data], laidTests := true, laidLooks := .later }
def ValAllCardSaid : Prop := Claim7.holds Tryd.pinned (.plain (OpenSpec.ofChange valAllSpec)) valAllCard

/-- THE TIED CARD OF 'doorkeeperlaw4.ValJoin'. -/
def valJoinCard : Claim7 := { stood := { row := valJoinRow, standIns := [], harness := (true, "828624c53c90e5b8d3b35c4a669ed2301b14a72a1d668f541d32a8b33ed594da"), looks := false }, kinds := [], alts := [], laidByText := true, laidKinds := [.data, .data, .data], laidTests := true, laidLooks := .later }
def ValJoinCardSaid : Prop := Claim7.holds Tryd.pinned (.plain (OpenSpec.ofChange valJoinSpec)) valJoinCard

/-- THE SECOND FORM's CARD OF 'doorkeeperlaw4.ValAll'. -/
def valAllUptoCard : Claim7 := { stood := { row := valAllUptoRow, standIns := [], harness := (true, "828624c53c90e5b8d3b35c4a669ed2301b14a72a1d668f541d32a8b33ed594da"), looks := false }, kinds := [], alts := [], laidByText := true, laidKinds := [.data, .data, .data], laidTests := true, laidLooks := .later }
def ValAllUptoCardSaid : Prop := Claim7.holds Tryd.pinned (.plain (OpenSpec.upto valAllSpec)) valAllUptoCard

/-- THE SECOND FORM's CARD OF 'doorkeeperlaw4.ValJoin'. -/
def valJoinUptoCard : Claim7 := { stood := { row := valJoinUptoRow, standIns := [], harness := (true, "828624c53c90e5b8d3b35c4a669ed2301b14a72a1d668f541d32a8b33ed594da"), looks := false }, kinds := [], alts := [], laidByText := true, laidKinds := [.data, .data, .data], laidTests := true, laidLooks := .later }
def ValJoinUptoCardSaid : Prop := Claim7.holds Tryd.pinned (.plain (OpenSpec.upto valJoinSpec)) valJoinUptoCard
end Rows
end Go.Proofs.YtfefkbmpkggocaaDoor
