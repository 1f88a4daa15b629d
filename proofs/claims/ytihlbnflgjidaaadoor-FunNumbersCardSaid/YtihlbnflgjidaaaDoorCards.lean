/-
  DERIVED. GIVEN WITH THE SEED: THE CARDS: each row of YtihlbnflgjidaaaDoorRows.lean that lists a variable, with what it lists TIED to the program's text (the seventh form; the later family's looks); each row that meets fmt, with fmt's text TOLD by the authors' own Lean function (tested against real Go, not proved from fmt's source: count such statements apart). THE CARD IS WHAT COUNTS. Prove the row's statement (the work); the ties are given (YtihlbnflgjidaaaDoorTie.lean); close each card by the builder's one call (the guide's Derived/Test/ToyasCard.lean, 'card_holds'). Laid BY PROGRAM, IN A SANDBOX (cutbox-door.mjs). By AI agents, Wed Nov 11 2026. No macro, syntax, notation, axiom, sorry.
-/
import Derived.Test.YtihlbnflgjidaaaDoorRows
import GoSem.ClaimSeven
namespace Go.Proofs.YtihlbnflgjidaaaDoor
namespace Rows

/-- THE TIED CARD OF 'doorkeeperlaw4.ValAll'. -/
def valAllCard : Claim7 := { stood := { row := valAllRow, standIns := [], harness := (true, "97de95cd7722aa08c105170c13c12e96e0f523ad20ef333fc06052bb15423727"), looks := false }, kinds := [], alts := [], laidByText := true, laidKinds := [.data, .data, .data], laidTests := true, laidLooks := .later }
def ValAllCardSaid : Prop := Claim7.holds Tryd.pinned (.plain (OpenSpec.ofChange valAllSpec)) valAllCard

/-- THE TIED CARD OF 'doorkeeperlaw5.FunAll'. -/
def funAllCard : Claim7 := { stood := { row := funAllRow, standIns := [], harness := (true, "97de95cd7722aa08c105170c13c12e96e0f523ad20ef333fc06052bb15423727"), looks := false }, kinds := [], alts := [], laidByText := true, laidKinds := [.data, .data, .data], laidTests := true, laidLooks := .later }
def FunAllCardSaid : Prop := Claim7.holds Tryd.pinned (.plain (OpenSpec.ofChange funAllSpec)) funAllCard

/-- THE TIED CARD OF 'doorkeeperlaw5.FunMade'. -/
def funMadeCard : Claim7 := { stood := { row := funMadeRow, standIns := [], harness := (true, "97de95cd7722aa08c105170c13c12e96e0f523ad20ef333fc06052bb15423727"), looks := false }, kinds := [], alts := [], laidByText := true, laidKinds := [.data, .data, .data], laidTests := true, laidLooks := .later }
def FunMadeCardSaid : Prop := Claim7.holds Tryd.pinned (.plain (OpenSpec.ofChange funMadeSpec)) funMadeCard

/-- THE TIED CARD OF 'doorkeeperlaw5.FunNumbers'. -/
def funNumbersCard : Claim7 := { stood := { row := funNumbersRow, standIns := [], harness := (true, "97de95cd7722aa08c105170c13c12e96e0f523ad20ef333fc06052bb15423727"), looks := false }, kinds := [], alts := [], laidByText := true, laidKinds := [.data, .data, .data], laidTests := true, laidLooks := .later }
def FunNumbersCardSaid : Prop := Claim7.holds Tryd.pinned (.plain (OpenSpec.ofChange funNumbersSpec)) funNumbersCard

/-- THE SECOND FORM's CARD OF 'doorkeeperlaw4.ValAll'. -/
def valAllUptoCard : Claim7 := { stood := { row := valAllUptoRow, standIns := [], harness := (true, "97de95cd7722aa08c105170c13c12e96e0f523ad20ef333fc06052bb15423727"), looks := false }, kinds := [], alts := [], laidByText := true, laidKinds := [.data, .data, .data], laidTests := true, laidLooks := .later }
def ValAllUptoCardSaid : Prop := Claim7.holds Tryd.pinned (.plain (OpenSpec.upto valAllSpec)) valAllUptoCard

/-- THE SECOND FORM's CARD OF 'doorkeeperlaw5.FunAll'. -/
def funAllUptoCard : Claim7 := { stood := { row := funAllUptoRow, standIns := [], harness := (true, "97de95cd7722aa08c105170c13c12e96e0f523ad20ef333fc06052bb15423727"), looks := false }, kinds := [], alts := [], laidByText := true, laidKinds := [.data, .data, .data], laidTests := true, laidLooks := .later }
def FunAllUptoCardSaid : Prop := Claim7.holds Tryd.pinned (.plain (OpenSpec.upto funAllSpec)) funAllUptoCard

/-- THE SECOND FORM's CARD OF 'doorkeeperlaw5.FunMade'. -/
def funMadeUptoCard : Claim7 := { stood := { row := funMadeUptoRow, standIns := [], harness := (true, "97de95cd7722aa08c105170c13c12e96e0f523ad20ef333fc06052bb15423727"), looks := false }, kinds := [], alts := [], laidByText := true, laidKinds := [.data, .data, .data], laidTests := true, laidLooks := .later }
def FunMadeUptoCardSaid : Prop := Claim7.holds Tryd.pinned (.plain (OpenSpec.upto funMadeSpec)) funMadeUptoCard

/-- THE SECOND FORM's CARD OF 'doorkeeperlaw5.FunNumbers'. -/
def funNumbersUptoCard : Claim7 := { stood := { row := funNumbersUptoRow, standIns := [], harness := (true, "97de95cd7722aa08c105170c13c12e96e0f523ad20ef333fc06052bb15423727"), looks := false }, kinds := [], alts := [], laidByText := true, laidKinds := [.data, .data, .data], laidTests := true, laidLooks := .later }
def FunNumbersUptoCardSaid : Prop := Claim7.holds Tryd.pinned (.plain (OpenSpec.upto funNumbersSpec)) funNumbersUptoCard
end Rows
end Go.Proofs.YtihlbnflgjidaaaDoor
