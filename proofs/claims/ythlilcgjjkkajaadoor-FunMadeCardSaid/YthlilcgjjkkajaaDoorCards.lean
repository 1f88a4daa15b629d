/-
  DERIVED. GIVEN WITH THE SEED: THE CARDS: each row of YthlilcgjjkkajaaDoorRows.lean that lists a variable, with what it lists TIED to the program's text (the seventh form; the later family's looks); each row that meets fmt, with fmt's text TOLD by the authors' own Lean function (tested against real Go, not proved from fmt's source: count such statements apart). THE CARD IS WHAT COUNTS. Prove the row's statement (the work); the ties are given (YthlilcgjjkkajaaDoorTie.lean); close each card by the builder's one call (the guide's Derived/Test/ToyasCard.lean, 'card_holds'). Laid BY PROGRAM, IN A SANDBOX (cutbox-door.mjs). By AI agents, Wed Nov 11 2026. No macro, syntax, notation, axiom, sorry.
-/
import Derived.Test.YthlilcgjjkkajaaDoorRows
import GoSem.ClaimSeven
namespace Go.Proofs.YthlilcgjjkkajaaDoor
namespace Rows

/-- THE TIED CARD OF 'doorkeeperlaw5.FunMade'. -/
def funMadeCard : Claim7 := { stood := { row := funMadeRow, standIns := [], harness := (true, "ef50eca955296b18d6aec401921b0bac3ffee0aaf6fe31fc74e9bb2fa157e0fd"), looks := false }, kinds := [], alts := [], laidByText := true, laidKinds := [.data, .data, .data], laidTests := true, laidLooks := .later }
def FunMadeCardSaid : Prop := Claim7.holds Tryd.pinned (.plain (OpenSpec.ofChange funMadeSpec)) funMadeCard

/-- THE SECOND FORM's CARD OF 'doorkeeperlaw5.FunMade'. -/
def funMadeUptoCard : Claim7 := { stood := { row := funMadeUptoRow, standIns := [], harness := (true, "ef50eca955296b18d6aec401921b0bac3ffee0aaf6fe31fc74e9bb2fa157e0fd"), looks := false }, kinds := [], alts := [], laidByText := true, laidKinds := [.data, .data, .data], laidTests := true, laidLooks := .later }
def FunMadeUptoCardSaid : Prop := Claim7.holds Tryd.pinned (.plain (OpenSpec.upto funMadeSpec)) funMadeUptoCard
end Rows
end Go.Proofs.YthlilcgjjkkajaaDoor
