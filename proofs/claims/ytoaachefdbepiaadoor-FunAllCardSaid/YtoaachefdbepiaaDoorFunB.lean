/- Package fun: what stands by a name. -/
import Derived.Test.YtoaachefdbepiaaDoorFunA
import Derived.Laws.EntriesVeiled
namespace Go.Proofs.YtoaachefdbepiaaDoor
open Go.RowKit
set_option linter.unusedVariables false
set_option linter.unusedSimpArgs false

/-- What named tells of a name that there is. -/
def Named (ks : List Int) (more : Bool) (F : FuncId) (w : World) (e : Ending) (w' : World) : Prop :=
  ∃ g, e = .returned (.tuple #[.agg #[.slice (some ⟨g, 0, none⟩) ks.length ks.length, .bool more, .func (.func F) #[] #[]], .bool true]) ∧ w.heap.size ≤ g ∧ g < w'.heap.size ∧ (∀ (i : Nat) (k : Int), ks[i]? = some k → w'.cell? ⟨g, i, none⟩ = some (.int .i64 k)) ∧ Below w.heap.size w w'
theorem row_new {w : World} {g : Nat} {ks : List Int} {t : TypeId} (h : w.heap[g]? = some (.cells (ks.map (Value.int .i64)).toArray t (0, 0))) (i : Nat) (k : Int) (hi : ks[i]? = some k) : w.cell? ⟨g, i, none⟩ = some (.int .i64 k) :=
  (cell_of_row w g i _ _ _ h).trans (by simp [hi])
section
variable (w : World)
set_option maxRecDepth 20000 in
theorem fnamed_min : Calls Tryd.prog 15 #[.string ⟨#[109, 105, 110]⟩] w (Named [1] true 30 w) := by
  go_enter Tryd.func15, Tryd.ntmps15
  go_wp2_with fail
  exact bodyPost_ret (v := .tuple #[.agg #[.slice (some ⟨w.heap.size + 1, 0, none⟩) 1 1, .bool true, .func (.func 30) #[] #[]], .bool true]) (by simp [results, Tryd.results15, go_sem]) rfl
    ⟨w.heap.size + 1, rfl, by omega, by simp, row_new (heap_at (by simp)), below_al (below_al (Below.refl _ _) _) _⟩
set_option maxRecDepth 20000 in
theorem fnamed_max : Calls Tryd.prog 15 #[.string ⟨#[109, 97, 120]⟩] w (Named [1] true 31 w) := by
  go_enter Tryd.func15, Tryd.ntmps15
  go_wp2_with fail
  exact bodyPost_ret (v := .tuple #[.agg #[.slice (some ⟨w.heap.size + 1, 0, none⟩) 1 1, .bool true, .func (.func 31) #[] #[]], .bool true]) (by simp [results, Tryd.results15, go_sem]) rfl
    ⟨w.heap.size + 1, rfl, by omega, by simp, row_new (heap_at (by simp)), below_al (below_al (Below.refl _ _) _) _⟩
set_option maxRecDepth 20000 in
theorem fnamed_sum : Calls Tryd.prog 15 #[.string ⟨#[115, 117, 109]⟩] w (Named [4] false 32 w) := by
  go_enter Tryd.func15, Tryd.ntmps15
  go_wp2_with fail
  exact bodyPost_ret (v := .tuple #[.agg #[.slice (some ⟨w.heap.size + 1, 0, none⟩) 1 1, .bool false, .func (.func 32) #[] #[]], .bool true]) (by simp [results, Tryd.results15, go_sem]) rfl
    ⟨w.heap.size + 1, rfl, by omega, by simp, row_new (heap_at (by simp)), below_al (below_al (Below.refl _ _) _) _⟩
set_option maxRecDepth 20000 in
theorem fnamed_len : Calls Tryd.prog 15 #[.string ⟨#[108, 101, 110]⟩] w (Named [6] false 33 w) := by
  go_enter Tryd.func15, Tryd.ntmps15
  go_wp2_with fail
  exact bodyPost_ret (v := .tuple #[.agg #[.slice (some ⟨w.heap.size + 1, 0, none⟩) 1 1, .bool false, .func (.func 33) #[] #[]], .bool true]) (by simp [results, Tryd.results15, go_sem]) rfl
    ⟨w.heap.size + 1, rfl, by omega, by simp, row_new (heap_at (by simp)), below_al (below_al (Below.refl _ _) _) _⟩
set_option maxRecDepth 20000 in
theorem fnamed_concat : Calls Tryd.prog 15 #[.string ⟨#[99, 111, 110, 99, 97, 116]⟩] w (Named [3] true 34 w) := by
  go_enter Tryd.func15, Tryd.ntmps15
  go_wp2_with fail
  exact bodyPost_ret (v := .tuple #[.agg #[.slice (some ⟨w.heap.size + 1, 0, none⟩) 1 1, .bool true, .func (.func 34) #[] #[]], .bool true]) (by simp [results, Tryd.results15, go_sem]) rfl
    ⟨w.heap.size + 1, rfl, by omega, by simp, row_new (heap_at (by simp)), below_al (below_al (Below.refl _ _) _) _⟩
set_option maxRecDepth 20000 in
theorem fnamed_join : Calls Tryd.prog 15 #[.string ⟨#[106, 111, 105, 110]⟩] w (Named [2, 5] false 35 w) := by
  go_enter Tryd.func15, Tryd.ntmps15
  go_wp2_with fail
  exact bodyPost_ret (v := .tuple #[.agg #[.slice (some ⟨w.heap.size + 1, 0, none⟩) 2 2, .bool false, .func (.func 35) #[] #[]], .bool true]) (by simp [results, Tryd.results15, go_sem]) rfl
    ⟨w.heap.size + 1, rfl, by omega, by simp, row_new (heap_at (by simp)), below_al (below_al (Below.refl _ _) _) _⟩
set_option maxRecDepth 20000 in
theorem fnamed_range : Calls Tryd.prog 15 #[.string ⟨#[114, 97, 110, 103, 101]⟩] w (Named [1] false 36 w) := by
  go_enter Tryd.func15, Tryd.ntmps15
  go_wp2_with fail
  exact bodyPost_ret (v := .tuple #[.agg #[.slice (some ⟨w.heap.size + 1, 0, none⟩) 1 1, .bool false, .func (.func 36) #[] #[]], .bool true]) (by simp [results, Tryd.results15, go_sem]) rfl
    ⟨w.heap.size + 1, rfl, by omega, by simp, row_new (heap_at (by simp)), below_al (below_al (Below.refl _ _) _) _⟩
set_option maxRecDepth 20000 in
theorem fnamed_abs : Calls Tryd.prog 15 #[.string ⟨#[97, 98, 115]⟩] w (Named [1] false 37 w) := by
  go_enter Tryd.func15, Tryd.ntmps15
  go_wp2_with fail
  exact bodyPost_ret (v := .tuple #[.agg #[.slice (some ⟨w.heap.size + 1, 0, none⟩) 1 1, .bool false, .func (.func 37) #[] #[]], .bool true]) (by simp [results, Tryd.results15, go_sem]) rfl
    ⟨w.heap.size + 1, rfl, by omega, by simp, row_new (heap_at (by simp)), below_al (below_al (Below.refl _ _) _) _⟩
set_option maxRecDepth 20000 in
theorem fnamed_has : Calls Tryd.prog 15 #[.string ⟨#[104, 97, 115]⟩] w (Named [3, 0] false 38 w) := by
  go_enter Tryd.func15, Tryd.ntmps15
  go_wp2_with fail
  exact bodyPost_ret (v := .tuple #[.agg #[.slice (some ⟨w.heap.size + 1, 0, none⟩) 2 2, .bool false, .func (.func 38) #[] #[]], .bool true]) (by simp [results, Tryd.results15, go_sem]) rfl
    ⟨w.heap.size + 1, rfl, by omega, by simp, row_new (heap_at (by simp)), below_al (below_al (Below.refl _ _) _) _⟩
set_option maxRecDepth 20000 in
theorem fnamed_text : Calls Tryd.prog 15 #[.string ⟨#[116, 101, 120, 116]⟩] w (Named [0] false 39 w) := by
  go_enter Tryd.func15, Tryd.ntmps15
  go_wp2_with fail
  exact bodyPost_ret (v := .tuple #[.agg #[.slice (some ⟨w.heap.size + 1, 0, none⟩) 1 1, .bool false, .func (.func 39) #[] #[]], .bool true]) (by simp [results, Tryd.results15, go_sem]) rfl
    ⟨w.heap.size + 1, rfl, by omega, by simp, row_new (heap_at (by simp)), below_al (below_al (Below.refl _ _) _) _⟩
/-- Texts that are no names. -/
def noName (s : ByteArray) : Prop := (s.toList == [109, 105, 110]) = false ∧ (s.toList == [109, 97, 120]) = false ∧ (s.toList == [115, 117, 109]) = false ∧ (s.toList == [108, 101, 110]) = false ∧ (s.toList == [99, 111, 110, 99, 97, 116]) = false ∧ (s.toList == [106, 111, 105, 110]) = false ∧ (s.toList == [114, 97, 110, 103, 101]) = false ∧ (s.toList == [97, 98, 115]) = false ∧ (s.toList == [104, 97, 115]) = false ∧ (s.toList == [116, 101, 120, 116]) = false
set_option maxRecDepth 20000 in
theorem fnamed_none (s : ByteArray) (h : noName s) : Calls Tryd.prog 15 #[.string s] w fun e w' => e = .returned (.tuple #[.agg #[.slice none 0 0, .bool false, .nilFunc], .bool false]) ∧ Below w.heap.size w w' := by
  obtain ⟨h0, h1, h2, h3, h4, h5, h6, h7, h8, h9⟩ := h
  go_enter Tryd.func15, Tryd.ntmps15
  go_wp2_with fail
  exact bodyPost_ret (v := .tuple #[.agg #[.slice none 0 0, .bool false, .nilFunc], .bool false]) (by simp [results, Tryd.results15, go_sem]) rfl ⟨rfl, below_al (Below.refl _ _) _⟩
end
end Go.Proofs.YtoaachefdbepiaaDoor
