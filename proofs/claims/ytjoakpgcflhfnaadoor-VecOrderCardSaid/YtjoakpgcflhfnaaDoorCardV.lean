/- What the rows' list of variables gives the walks (the table of powers of ten), and a start that fits. -/
import Derived.Test.YtjoakpgcflhfnaaDoorVecF
import Derived.Test.YtjoakpgcflhfnaaDoorCards
import Derived.Test.YtjoakpgcflhfnaaDoorTie
import Derived.ProofKit
import Derived.LaidMore
import Derived.OpenShut
import Derived.ShutString
import Derived.ChangeOld
import Derived.Stop.Joined
import Derived.Lib.LaidTab
import Derived.Stop.LaidErr
namespace Go.Proofs.YtjoakpgcflhfnaaDoor
open Go.ChangeShapes Go.WideShapes Go.ChangeAt Go.RowKit
open Go.ChangeMaps (open_string shut_string)
set_option linter.unusedVariables false

theorem own : ownKnob Tryd.prog.godebug = none := by kernel_rfl
theorem laidOut : laidOutB Tryd.prog = true := by kernel_rfl
abbrev laidAll : List (String × DataW Unit) := Rows.vecSumsRow.laid
/-- The door's own heap meets the condition. -/
theorem door_met (os : Os) (args : Array Value) : laidMetH Tryd.prog laidAll ((World.doorLaid Tryd.prog 400 os).forCall (fun _ _ => 0) ⟨#[], args, []⟩).memory :=
  laidMetH_of_parts3 (fuel := 8) (laidMet_of_run' 8 (by kernel_rfl) (by kernel_rfl)) (by kernel_rfl) (by kernel_rfl)
theorem gPowType : (Tryd.prog.globals[0]?).map (·.type) = some 50 := by kernel_rfl
theorem tab_of_laid {W : World} (h : laidMetH Tryd.prog laidAll W) : TabOK W := by
  rw [MakeChecks.laidMetH_plain _ _ _ (by kernel_rfl)] at h
  exact Lib.tabIs_of_head gPow gPowType Tryd.underlying50 Tryd.underlying40 (by kernel_rfl) (by kernel_rfl) h.tail.tail
end Go.Proofs.YtjoakpgcflhfnaaDoor
