/- A step that came in, by value. -/
import Derived.Test.YtmpakgabehplbaaShF
import Derived.Test.YtmpakgabehplbaaOpenI
import Derived.Lib.SmallJoins
namespace Go.Proofs.Ytmpakgabehplbaa
open Go.ChangeShapes Go.WideShapes Go.ChangeAt Go.RowKit
set_option linter.unusedVariables false
set_option linter.unusedSimpArgs false
theorem cells_step : Try.prog.cellsOf 26 = 6 := by kernel_rfl
theorem array6 {α : Type} {cs : Array α} (h : cs.size = 6) : ∃ c0 c1 c2 c3 c4 c5, cs = #[c0, c1, c2, c3, c4, c5] := by
  obtain ⟨l⟩ := cs
  match l, h with
  | [c0, c1, c2, c3, c4, c5], _ => exact ⟨c0, c1, c2, c3, c4, c5, rfl⟩
theorem step_cells (c0 c1 c2 c3 c4 c5 : Value) : (Value.agg #[c0, c1, c2, c3, c4, c5]).cells.toList = [c0, c1, c2, c3, c4, c5] := rfl
set_option maxRecDepth 100000 in
/-- One step, read out of its six cells. -/
theorem open_step6 {H : Type} {enc : TypeId × Value → H} {W : World} {n : Nat} {c0 c1 c2 c3 c4 c5 : Value} {y : DataW H × List MemPlace} (h : DataW.trod enc Try.prog W 0 (fun _ => true) true n 26 [c0, c1, c2, c3, c4, c5] = some y) :
    ∃ st : St6, [c0, c1, c2, c3, c4, c5] = [.int .i64 st.kind, .string st.name, .string st.par, .int .i64 st.lim.c, .int .i64 st.lim.m, .int .i64 st.lim.p] ∧ st.name.size ≤ maxLen ∧ st.par.size ≤ maxLen := by
  obtain ⟨xs, n', hn, -, hl, hxl, hf⟩ := DataW.trod_struct Try.underlying26 h
  have hx : xs.length = 4 := hxl
  have g0 : DataW.trod enc Try.prog W 0 (fun _ => true) true n' 3 ((([c0, c1, c2, c3, c4, c5] : List Value).drop 0).take (Try.prog.cellsOf 3)) = xs[0]? := hf 0 _ rfl
  rw [cells_in] at g0
  replace g0 : DataW.trod enc Try.prog W 0 (fun _ => true) true n' 3 [c0] = xs[0]? := g0
  have g1 : DataW.trod enc Try.prog W 0 (fun _ => true) true n' 9 ((([c0, c1, c2, c3, c4, c5] : List Value).drop 1).take (Try.prog.cellsOf 9)) = xs[1]? := hf 1 _ rfl
  rw [cells_st] at g1
  replace g1 : DataW.trod enc Try.prog W 0 (fun _ => true) true n' 9 [c1] = xs[1]? := g1
  have g2 : DataW.trod enc Try.prog W 0 (fun _ => true) true n' 9 ((([c0, c1, c2, c3, c4, c5] : List Value).drop 2).take (Try.prog.cellsOf 9)) = xs[2]? := hf 2 _ rfl
  rw [cells_st] at g2
  replace g2 : DataW.trod enc Try.prog W 0 (fun _ => true) true n' 9 [c2] = xs[2]? := g2
  have g3 : DataW.trod enc Try.prog W 0 (fun _ => true) true n' 24 ((([c0, c1, c2, c3, c4, c5] : List Value).drop 3).take (Try.prog.cellsOf 24)) = xs[3]? := hf 3 _ rfl
  rw [cells_vc] at g3
  replace g3 : DataW.trod enc Try.prog W 0 (fun _ => true) true n' 24 [c3, c4, c5] = xs[3]? := g3
  rw [List.getElem?_eq_getElem (by omega)] at g0 g1 g2 g3
  obtain ⟨k, hk, -, wk⟩ := DataW.trod_int Try.underlying3 g0
  obtain ⟨a, ha, -, wa⟩ := DataW.trod_string Try.underlying9 g1
  obtain ⟨b, hb, -, wb⟩ := DataW.trod_string Try.underlying9 g2
  obtain ⟨v, hv, -⟩ := open_vec3 g3
  simp only [List.cons.injEq, and_true] at hk ha hb hv
  exact ⟨⟨k, a, b, v⟩, by rw [hk, ha, hb, hv.1, hv.2.1, hv.2.2], wa, wb⟩
set_option maxRecDepth 100000 in
theorem open_step {H : Type} {enc : TypeId × Value → H} {W : World} {base : Nat} {v : Value} {d : DataW H} {p : List MemPlace} (hval : Value.okWide Try.prog W .any base 26 v) (h : DataW.Trod enc Try.prog W 0 (fun _ => true) true 26 v d p) :
    ∃ st : St6, v = st.val ∧ st.name.size ≤ maxLen ∧ st.par.size ≤ maxLen := by
  obtain ⟨cs, rfl, hsz⟩ := okWide_struct Try.underlying26 hval
  obtain ⟨c0, c1, c2, c3, c4, c5, rfl⟩ := array6 (hsz.trans cells_step)
  obtain ⟨fuel, hf⟩ := h
  rw [step_cells] at hf
  obtain ⟨st, e, h1, h2⟩ := open_step6 hf
  simp only [List.cons.injEq, and_true] at e
  obtain ⟨rfl, rfl, rfl, rfl, rfl, rfl⟩ := e
  exact ⟨st, rfl, h1, h2⟩
end Go.Proofs.Ytmpakgabehplbaa
