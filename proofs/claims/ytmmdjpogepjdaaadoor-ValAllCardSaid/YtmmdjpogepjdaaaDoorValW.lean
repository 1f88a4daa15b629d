/- The document's answers: an error, a number, a truth. -/
import Derived.Test.YtmmdjpogepjdaaaDoorValG
namespace Go.Proofs.YtmmdjpogepjdaaaDoor
open Go.RowKit
set_option linter.unusedVariables false
set_option linter.unusedSimpArgs false

/-- What the document answers: a value without a list, beside an error. -/
def Doc (r : VL × Int) (w : World) (e : Ending) (w' : World) : Prop := e = .returned (.agg #[.int .i64 r.1.kind, .int .i64 r.1.num, .string r.1.text, .slice none 0 0, .int .i64 r.2]) ∧ Below w.heap.size w w'
section
variable (w : World)
theorem rbad (c : Int) : Calls Tryd.prog 38 #[.int .i64 c] w (Doc (vz, c) w) := by
  go_enter Tryd.func38, Tryd.ntmps38
  go_wp2_with fail
  exact bodyPost_ret (v := .agg #[.int .i64 0, .int .i64 0, .string ⟨#[]⟩, .slice none 0 0, .int .i64 c]) (by simp [results, Tryd.results38, go_sem]) rfl ⟨rfl, below_al (Below.refl _ _) _⟩
theorem rnum (n : Int) : Calls Tryd.prog 40 #[.int .i64 n] w (Doc (vnum n, 0) w) := by
  go_enter Tryd.func40, Tryd.ntmps40
  go_wp2_with fail
  exact bodyPost_ret (v := .agg #[.int .i64 1, .int .i64 n, .string ⟨#[]⟩, .slice none 0 0, .int .i64 0]) (by simp [results, Tryd.results40, go_sem]) rfl ⟨rfl, below_al (Below.refl _ _) _⟩
theorem rtruth (b : Bool) : Calls Tryd.prog 39 #[.bool b] w (Doc (vbool b, 0) w) := by
  cases b
  · go_enter Tryd.func39, Tryd.ntmps39
    go_wp2_with fail
    exact bodyPost_ret (v := .agg #[.int .i64 3, .int .i64 0, .string ⟨#[]⟩, .slice none 0 0, .int .i64 0]) (by simp [results, Tryd.results39, go_sem]) rfl ⟨rfl, below_al (Below.refl _ _) _⟩
  · go_enter Tryd.func39, Tryd.ntmps39
    go_wp2_with fail
    exact bodyPost_ret (v := .agg #[.int .i64 3, .int .i64 1, .string ⟨#[]⟩, .slice none 0 0, .int .i64 0]) (by simp [results, Tryd.results39, go_sem]) rfl ⟨rfl, below_al (Below.refl _ _) _⟩
end
end Go.Proofs.YtmmdjpogepjdaaaDoor
