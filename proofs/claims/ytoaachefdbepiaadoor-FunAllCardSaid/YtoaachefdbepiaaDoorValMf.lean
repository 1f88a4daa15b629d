/- The document's Index; package val: Index of other kinds; what is the document's. -/
import Derived.Test.YtoaachefdbepiaaDoorValMe
import Derived.Test.YtoaachefdbepiaaDoorValY
namespace Go.Proofs.YtoaachefdbepiaaDoor
open Go.RowKit
set_option linter.unusedVariables false
set_option linter.unusedSimpArgs false

/-- What the document answers: a value, beside an error. -/
def DocR (D : Nat) (r : VL × Int) (w : World) (e : Ending) (w' : World) : Prop := ∃ lv, e = .returned (.agg #[.int .i64 r.1.kind, .int .i64 r.1.num, .string r.1.text, lv, .int .i64 r.2]) ∧ RowRd w' D r.1.kids lv ∧ Below w.heap.size w w'
theorem doc_nil {D : Nat} {r : VL × Int} {w w' : World} {e : Ending} (h : Doc r w e w') (hk : r.1.kids = []) : DocR D r w e w' := ⟨_, h.1, by rw [hk]; exact RowRd.nil _ _ _ _, h.2⟩
end Go.Proofs.YtoaachefdbepiaaDoor
