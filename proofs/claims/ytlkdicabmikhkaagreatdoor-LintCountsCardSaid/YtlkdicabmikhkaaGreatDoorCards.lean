/-
  DERIVED. GIVEN WITH THE SEED: THE CARDS: each row of YtlkdicabmikhkaaGreatDoorRows.lean that lists a variable, with what it lists TIED to the program's text (the seventh form; the later family's looks); each row that meets fmt, with fmt's text TOLD by the authors' own Lean function (tested against real Go, not proved from fmt's source: count such statements apart). THE CARD IS WHAT COUNTS. Prove the row's statement (the work); the ties are given (YtlkdicabmikhkaaGreatDoorTie.lean); close each card by the builder's one call (the guide's Derived/Test/ToyasCard.lean, 'card_holds'). Laid BY PROGRAM, IN A SANDBOX (cutbox-door.mjs). By AI agents, Wed Nov 11 2026. No macro, syntax, notation, axiom, sorry.
-/
import Derived.Test.YtlkdicabmikhkaaGreatDoorRows
import GoSem.ClaimSeven
namespace Go.Proofs.YtlkdicabmikhkaaGreatDoor
namespace Rows

/-- THE TIED CARD OF 'doorkeeperlaw9.LintCounts'. -/
def lintCountsCard : Claim7 := { stood := { row := lintCountsRow, standIns := [], harness := (true, "d689d0369229ed02426294aebcafe12d507c1de5b1cb848912faef12f09e8a81"), looks := true }, kinds := [], alts := [], laidByText := true, laidKinds := [.data, .data, .data, .sentinel, .sentinel], laidTests := true, laidLooks := .later }
def LintCountsCardSaid : Prop := Claim7.holds Tryz.pinned (.plain (OpenSpec.ofChange lintCountsSpec)) lintCountsCard

/-- THE TIED CARD OF 'doorkeeperlaw9.LintAny'. -/
def lintAnyCard : Claim7 := { stood := { row := lintAnyRow, standIns := [], harness := (true, "d689d0369229ed02426294aebcafe12d507c1de5b1cb848912faef12f09e8a81"), looks := true }, kinds := [], alts := [], laidByText := true, laidKinds := [.data, .data, .data, .sentinel, .sentinel], laidTests := true, laidLooks := .later }
def LintAnyCardSaid : Prop := Claim7.holds Tryz.pinned (.plain (OpenSpec.ofChange lintAnySpec)) lintAnyCard

/-- THE SECOND FORM's CARD OF 'doorkeeperlaw9.LintCounts'. -/
def lintCountsUptoCard : Claim7 := { stood := { row := lintCountsUptoRow, standIns := [], harness := (true, "d689d0369229ed02426294aebcafe12d507c1de5b1cb848912faef12f09e8a81"), looks := true }, kinds := [], alts := [], laidByText := true, laidKinds := [.data, .data, .data, .sentinel, .sentinel], laidTests := true, laidLooks := .later }
def LintCountsUptoCardSaid : Prop := Claim7.holds Tryz.pinned (.plain (OpenSpec.upto lintCountsSpec)) lintCountsUptoCard

/-- THE SECOND FORM's CARD OF 'doorkeeperlaw9.LintAny'. -/
def lintAnyUptoCard : Claim7 := { stood := { row := lintAnyUptoRow, standIns := [], harness := (true, "d689d0369229ed02426294aebcafe12d507c1de5b1cb848912faef12f09e8a81"), looks := true }, kinds := [], alts := [], laidByText := true, laidKinds := [.data, .data, .data, .sentinel, .sentinel], laidTests := true, laidLooks := .later }
def LintAnyUptoCardSaid : Prop := Claim7.holds Tryz.pinned (.plain (OpenSpec.upto lintAnySpec)) lintAnyUptoCard
end Rows
end Go.Proofs.YtlkdicabmikhkaaGreatDoor
