/- A value that came in, by value. -/
import Derived.Test.YtmmdjpogepjdaaaDoorOpenV
import Derived.Lib.SmallJoins
namespace Go.Proofs.YtmmdjpogepjdaaaDoor
open Go.ChangeShapes Go.WideShapes Go.ChangeAt Go.RowKit
set_option linter.unusedVariables false
set_option linter.unusedSimpArgs false
set_option maxRecDepth 100000 in
theorem open_val {H : Type} {enc : TypeId × Value → H} {W : World} {base : Nat} {v : Value} {d : DataW H} {p : List MemPlace} (hval : Value.okWide Tryd.prog W .any base 24 v) (h : DataW.Trod enc Tryd.prog W 0 (fun _ => true) true 24 v d p) :
    ∃ (D : Nat) (u : VL) (lv : Value), v = .agg #[.int .i64 u.kind, .int .i64 u.num, .string u.text, lv] ∧ RowRd W D u.kids lv ∧ I64 u.num := by
  obtain ⟨v0, v1, v2, v3, y0, y1, y2, y3, n, rfl, -, -, t0, t1, t2, t3⟩ := Joins.open_agg4 Tryd.underlying24 (by kernel_rfl) cells_val hval h
  obtain ⟨k, hk, -, wk⟩ := DataW.trod_int Tryd.underlying3 t0
  obtain ⟨m, hm, -, wm⟩ := DataW.trod_int Tryd.underlying3 t1
  obtain ⟨s, hs, -, ws⟩ := DataW.trod_string Tryd.underlying9 t2
  obtain ⟨l, lv, e, hr, ha⟩ := open_vals_at n _ _ t3
  simp only [List.cons.injEq, and_true] at hk hm hs e
  subst hk hm hs e
  simp only [Lit.wf, Bool.and_eq_true, decide_eq_true_eq] at wm
  exact ⟨n, .mk k m s l, _, rfl, hr, wm⟩
end Go.Proofs.YtmmdjpogepjdaaaDoor
