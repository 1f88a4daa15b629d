/- The document's answers: an error, a number, a truth. -/
import Derived.Test.YtoaachefdbepiaaDoorValG
namespace Go.Proofs.YtoaachefdbepiaaDoor
open Go.RowKit
set_option linter.unusedVariables false
set_option linter.unusedSimpArgs false

/-- What the document answers: a value without a list, beside an error. -/
def Doc (r : VL × Int) (w : World) (e : Ending) (w' : World) : Prop := e = .returned (.agg #[.int .i64 r.1.kind, .int .i64 r.1.num, .string r.1.text, .slice none 0 0, .int .i64 r.2]) ∧ Below w.heap.size w w'
section
variable (w : World)
theorem rbad (c : Int) : Calls Tryd.prog 18 #[.int .i64 c] w (Doc (vz, c) w) := by
  go_enter Tryd.func18, Tryd.ntmps18
  go_wp2_with fail
  exact bodyPost_ret (v := .agg #[.int .i64 0, .int .i64 0, .string ⟨#[]⟩, .slice none 0 0, .int .i64 c]) (by simp [results, Tryd.results18, go_sem]) rfl ⟨rfl, below_al (Below.refl _ _) _⟩
theorem rnum (n : Int) : Calls Tryd.prog 22 #[.int .i64 n] w (Doc (vnum n, 0) w) := by
  go_enter Tryd.func22, Tryd.ntmps22
  go_wp2_with fail
  exact bodyPost_ret (v := .agg #[.int .i64 1, .int .i64 n, .string ⟨#[]⟩, .slice none 0 0, .int .i64 0]) (by simp [results, Tryd.results22, go_sem]) rfl ⟨rfl, below_al (Below.refl _ _) _⟩
theorem rtruth (b : Bool) : Calls Tryd.prog 27 #[.bool b] w (Doc (vbool b, 0) w) := by
  cases b
  · go_enter Tryd.func27, Tryd.ntmps27
    go_wp2_with fail
    exact bodyPost_ret (v := .agg #[.int .i64 3, .int .i64 0, .string ⟨#[]⟩, .slice none 0 0, .int .i64 0]) (by simp [results, Tryd.results27, go_sem]) rfl ⟨rfl, below_al (Below.refl _ _) _⟩
  · go_enter Tryd.func27, Tryd.ntmps27
    go_wp2_with fail
    exact bodyPost_ret (v := .agg #[.int .i64 3, .int .i64 1, .string ⟨#[]⟩, .slice none 0 0, .int .i64 0]) (by simp [results, Tryd.results27, go_sem]) rfl ⟨rfl, below_al (Below.refl _ _) _⟩
end
end Go.Proofs.YtoaachefdbepiaaDoor
