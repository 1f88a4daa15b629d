/- The law's example. -/
import Derived.Test.YtkcilajbhoihcaaDoorLexI0
namespace Go.Proofs.YtkcilajbhoihcaaDoor
open Go.RowKit
set_option linter.unusedVariables false
set_option linter.unusedSimpArgs false

/-! ### The law's example -/
def exText : ByteArray := ⟨#[97, 32, 61, 32, 49]⟩
theorem exE : lexE exText = 0 := by kernel_rfl
theorem exLen : (lexT exText).length = 4 := by kernel_rfl
theorem exKind : (lexT exText)[0]?.map (·.kind) = some 3 := by kernel_rfl
theorem exNum : (lexT exText)[2]?.map (·.num) = some 1 := by kernel_rfl
theorem ex_cells {w : World} {v : Value} (h : ToksRd w v (lexT exText)) : ∃ g o cap, v = .slice (some ⟨g, o, none⟩) 4 cap ∧ w.cell? ⟨g, o, none⟩ = some (.int .i64 3) ∧ w.cell? ⟨g, o + 12, none⟩ = some (.int .i64 1) := by
  obtain ⟨ao, cap, hv, hc⟩ := h.at
  obtain ⟨t0, h0, k0⟩ := Option.map_eq_some_iff.1 exKind
  obtain ⟨t2, h2, k2⟩ := Option.map_eq_some_iff.1 exNum
  obtain ⟨g, o, pv, ha, hi⟩ := hc 0 t0 h0
  obtain ⟨g', o', pv', ha', hi'⟩ := hc 2 t2 h2
  rw [ha] at ha'
  simp at ha'
  obtain ⟨rfl, rfl⟩ := ha'
  have e1 := hi.kind
  have e2 := hi'.num
  rw [k0] at e1
  rw [k2] at e2
  exact ⟨g, o, cap, by rw [hv, ha, exLen], by simpa using e1, e2⟩
section
variable (w : World)
set_option maxRecDepth 20000 in
theorem awake_any (hv : ErrVar w) : Calls Tryd.prog 4 #[] w (Made (.bool true) w) := by
  have V := Lib.hid hv
  clear hv
  go_enter Tryd.func4, Tryd.ntmps4
  go_wp2_with fail
  refine (lex_rd exText w (by decide) V.out).mono ?_
  rintro e w1 ⟨v, rfl, hb1, ht⟩
  rw [exE]
  obtain ⟨g, o, cap, rfl, c1, c2⟩ := ex_cells ht
  have B1 := Lib.hid hb1
  clear hb1 ht
  go_wp2
  go_ret
  exact ⟨rfl, B1.out⟩
end
end Go.Proofs.YtkcilajbhoihcaaDoor
