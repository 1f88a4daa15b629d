/- An amount that came in, by value. -/
import Derived.Test.YtekaefeogbmmmaaVecA
import Derived.ShutString
import Derived.ChangeOld
import Derived.Lib.SmallJoins
import Derived.OpenShut
namespace Go.Proofs.Ytekaefeogbmmmaa
open Go.ChangeShapes Go.WideShapes Go.ChangeAt Go.RowKit
set_option linter.unusedVariables false
set_option linter.unusedSimpArgs false
theorem cells_vec : Try.prog.cellsOf 24 = 3 := by kernel_rfl
set_option maxRecDepth 100000 in
theorem open_vec {H : Type} {enc : TypeId × Value → H} {W : World} {base : Nat} {v : Value} {d : DataW H} {p : List MemPlace} (hval : Value.okWide Try.prog W .any base 24 v) (h : DataW.Trod enc Try.prog W 0 (fun _ => true) true 24 v d p) :
    ∃ u : V3, v = .agg #[.int .i64 u.c, .int .i64 u.m, .int .i64 u.p] ∧ u.I := by
  obtain ⟨v0, v1, v2, y0, y1, y2, n, rfl, -, -, t0, t1, t2⟩ := Joins.open_agg3 Try.underlying24 (by kernel_rfl) cells_vec hval h
  obtain ⟨k, hk, -, wk⟩ := DataW.trod_int Try.underlying3 t0
  obtain ⟨m, hm, -, wm⟩ := DataW.trod_int Try.underlying3 t1
  obtain ⟨s, hs, -, ws⟩ := DataW.trod_int Try.underlying3 t2
  simp only [List.cons.injEq, and_true] at hk hm hs
  subst hk hm hs
  simp only [Lit.wf, Bool.and_eq_true, decide_eq_true_eq] at wk wm ws
  exact ⟨⟨k, m, s⟩, rfl, wk, wm, ws⟩
end Go.Proofs.Ytekaefeogbmmmaa
