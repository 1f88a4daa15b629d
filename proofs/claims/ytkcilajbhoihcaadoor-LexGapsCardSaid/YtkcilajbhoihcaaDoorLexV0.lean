/- Small things that the laws' walks share. -/
import Derived.Test.YtkcilajbhoihcaaDoorLexU
import Derived.Deep.RegionWith
namespace Go.Proofs.YtkcilajbhoihcaaDoor
open Go.RowKit
set_option linter.unusedVariables false
set_option linter.unusedSimpArgs false

theorem lexE_in (s : ByteArray) : 0 ≤ lexE s ∧ lexE s ≤ 5 := by
  unfold lexE; split
  · omega
  · split <;> omega
theorem ToksRd.drew {w : World} {v : Value} {ts : List TokL} (h : ToksRd w v ts) : ToksRd w.drew v ts := h.drewN 1
theorem below_drew {B : Nat} {a w : World} (h : Below B a w) : Below B a w.drew := ⟨h.os, h.tape, h.output, h.size, h.block⟩
theorem Below.heap_alloc' (w : World) (O : Obj) : Below w.heap.size w (w.alloc O) := (Below.refl _ _).alloc (Nat.le_refl _) _
section
variable (s : ByteArray) (w : World)
theorem num_any (x : Int) (h0 : 0 ≤ x) (h1 : x ≤ 100) : Calls Tryd.prog 6 #[.int .i64 x] w fun e w' => e = .returned (.int .i64 x) ∧ w = w' := by
  go_enter Tryd.func6, Tryd.ntmps6
  go_wp2
  go_ret
  exact ⟨rfl, rfl⟩
end
end Go.Proofs.YtkcilajbhoihcaaDoor
