/- Values by numbers: Make. -/
import Derived.Test.YtoaachefdbepiaaDoorValMb
import Derived.Test.YtoaachefdbepiaaDoorU8s
import Derived.Test.YtoaachefdbepiaaDoorOwnW
namespace Go.Proofs.YtoaachefdbepiaaDoor
open Go.RowKit
set_option linter.unusedVariables false
set_option linter.unusedSimpArgs false

/-- What Make tells. -/
def MadeBy (D : Nat) (v : VL) (w : World) (e : Ending) (w' : World) : Prop := ∃ lv, e = .returned (.agg #[.int .i64 v.kind, .int .i64 v.num, .string v.text, lv]) ∧ RowIn w' (fun g => w.heap.size ≤ g) D v.kids lv ∧ Below w.heap.size w w' ∧ (v.kind ≠ 4 → lv = .slice none 0 0)
theorem rowIn_nil (w : World) (P : Nat → Prop) (D : Nat) (ao : Option Addr) (cap : Nat) : RowIn w P D [] (.slice ao 0 cap) := by
  cases D with
  | zero => exact ⟨rfl, ao, cap, rfl⟩
  | succ D => exact ⟨Nat.zero_le _, ao, cap, rfl, fun i u h => by simp at h⟩
end Go.Proofs.YtoaachefdbepiaaDoor
