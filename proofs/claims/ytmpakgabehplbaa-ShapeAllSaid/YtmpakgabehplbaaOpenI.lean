/- Live trees that came in. -/
import Derived.Test.YtmpakgabehplbaaTrC
import Derived.ProofKit
import Derived.ChangeSlices
import Derived.ChangeOld
import Derived.OpenShut
import Derived.ShutString
import Derived.LaidMore
import Derived.Deep.Slices
namespace Go.Proofs.Ytmpakgabehplbaa
open Go.ChangeShapes Go.WideShapes Go.ChangeAt Go.RowKit
set_option linter.unusedVariables false
set_option linter.unusedSimpArgs false
instance : Inhabited I12 := ⟨⟨⟨#[]⟩, ⟨#[]⟩, z3, z3, z3, 0⟩⟩
theorem cells_item : Try.prog.cellsOf 52 = 12 := by kernel_rfl
theorem cells_vc : Try.prog.cellsOf 24 = 3 := by kernel_rfl
theorem cells_in : Try.prog.cellsOf 3 = 1 := by kernel_rfl
theorem cells_st : Try.prog.cellsOf 9 = 1 := by kernel_rfl
section
variable {H : Type} {enc : TypeId × Value → H} {W : World}
set_option maxRecDepth 100000 in
/-- One amount, read out of its three cells. -/
theorem open_vec3 {n : Nat} {cs : List Value} {y : DataW H × List MemPlace} (h : DataW.trod enc Try.prog W 0 (fun _ => true) true n 24 cs = some y) :
    ∃ v : V3, cs = [.int .i64 v.c, .int .i64 v.m, .int .i64 v.p] ∧ v.I := by
  obtain ⟨xs, n', hn, -, hl, hxl, hf⟩ := DataW.trod_struct Try.underlying24 h
  rw [cells_vc] at hl
  match cs, hl with
  | [c0, c1, c2], _ =>
    have hx : xs.length = 3 := hxl
    have g0 : DataW.trod enc Try.prog W 0 (fun _ => true) true n' 3 ((([c0, c1, c2] : List Value).drop 0).take (Try.prog.cellsOf 3)) = xs[0]? := hf 0 _ rfl
    rw [cells_in] at g0
    replace g0 : DataW.trod enc Try.prog W 0 (fun _ => true) true n' 3 [c0] = xs[0]? := g0
    have g1 : DataW.trod enc Try.prog W 0 (fun _ => true) true n' 3 ((([c0, c1, c2] : List Value).drop 1).take (Try.prog.cellsOf 3)) = xs[1]? := hf 1 _ rfl
    rw [cells_in] at g1
    replace g1 : DataW.trod enc Try.prog W 0 (fun _ => true) true n' 3 [c1] = xs[1]? := g1
    have g2 : DataW.trod enc Try.prog W 0 (fun _ => true) true n' 3 ((([c0, c1, c2] : List Value).drop 2).take (Try.prog.cellsOf 3)) = xs[2]? := hf 2 _ rfl
    rw [cells_in] at g2
    replace g2 : DataW.trod enc Try.prog W 0 (fun _ => true) true n' 3 [c2] = xs[2]? := g2
    rw [List.getElem?_eq_getElem (by omega)] at g0 g1 g2
    obtain ⟨k, hk, -, wk⟩ := DataW.trod_int Try.underlying3 g0
    obtain ⟨m, hm, -, wm⟩ := DataW.trod_int Try.underlying3 g1
    obtain ⟨p, hp, -, wp⟩ := DataW.trod_int Try.underlying3 g2
    simp only [List.cons.injEq, and_true] at hk hm hp
    simp only [Lit.wf, Bool.and_eq_true, decide_eq_true_eq] at wk wm wp
    exact ⟨⟨k, m, p⟩, by rw [hk, hm, hp], wk, wm, wp⟩
set_option maxRecDepth 100000 in
/-- One live node, read out of its twelve cells. -/
theorem open_item12 {n : Nat} {cs : List Value} {y : DataW H × List MemPlace} (h : DataW.trod enc Try.prog W 0 (fun _ => true) true n 52 cs = some y) :
    ∃ u : I12, cs = u.cells ∧ u.name.size ≤ maxLen ∧ u.parent.size ≤ maxLen := by
  obtain ⟨xs, n', hn, -, hl, hxl, hf⟩ := DataW.trod_struct Try.underlying52 h
  rw [cells_item] at hl
  match cs, hl with
  | [c0, c1, c2, c3, c4, c5, c6, c7, c8, c9, c10, c11], _ =>
    have hx : xs.length = 6 := hxl
    have g0 : DataW.trod enc Try.prog W 0 (fun _ => true) true n' 9 ((([c0, c1, c2, c3, c4, c5, c6, c7, c8, c9, c10, c11] : List Value).drop 0).take (Try.prog.cellsOf 9)) = xs[0]? := hf 0 _ rfl
    rw [cells_st] at g0
    replace g0 : DataW.trod enc Try.prog W 0 (fun _ => true) true n' 9 [c0] = xs[0]? := g0
    have g1 : DataW.trod enc Try.prog W 0 (fun _ => true) true n' 9 ((([c0, c1, c2, c3, c4, c5, c6, c7, c8, c9, c10, c11] : List Value).drop 1).take (Try.prog.cellsOf 9)) = xs[1]? := hf 1 _ rfl
    rw [cells_st] at g1
    replace g1 : DataW.trod enc Try.prog W 0 (fun _ => true) true n' 9 [c1] = xs[1]? := g1
    have g2 : DataW.trod enc Try.prog W 0 (fun _ => true) true n' 24 ((([c0, c1, c2, c3, c4, c5, c6, c7, c8, c9, c10, c11] : List Value).drop 2).take (Try.prog.cellsOf 24)) = xs[2]? := hf 2 _ rfl
    rw [cells_vc] at g2
    replace g2 : DataW.trod enc Try.prog W 0 (fun _ => true) true n' 24 [c2, c3, c4] = xs[2]? := g2
    have g3 : DataW.trod enc Try.prog W 0 (fun _ => true) true n' 24 ((([c0, c1, c2, c3, c4, c5, c6, c7, c8, c9, c10, c11] : List Value).drop 5).take (Try.prog.cellsOf 24)) = xs[3]? := hf 3 _ rfl
    rw [cells_vc] at g3
    replace g3 : DataW.trod enc Try.prog W 0 (fun _ => true) true n' 24 [c5, c6, c7] = xs[3]? := g3
    have g4 : DataW.trod enc Try.prog W 0 (fun _ => true) true n' 24 ((([c0, c1, c2, c3, c4, c5, c6, c7, c8, c9, c10, c11] : List Value).drop 8).take (Try.prog.cellsOf 24)) = xs[4]? := hf 4 _ rfl
    rw [cells_vc] at g4
    replace g4 : DataW.trod enc Try.prog W 0 (fun _ => true) true n' 24 [c8, c9, c10] = xs[4]? := g4
    have g5 : DataW.trod enc Try.prog W 0 (fun _ => true) true n' 3 ((([c0, c1, c2, c3, c4, c5, c6, c7, c8, c9, c10, c11] : List Value).drop 11).take (Try.prog.cellsOf 3)) = xs[5]? := hf 5 _ rfl
    rw [cells_in] at g5
    replace g5 : DataW.trod enc Try.prog W 0 (fun _ => true) true n' 3 [c11] = xs[5]? := g5
    rw [List.getElem?_eq_getElem (by omega)] at g0 g1 g2 g3 g4 g5
    obtain ⟨k, hk, -, wk⟩ := DataW.trod_string Try.underlying9 g0
    obtain ⟨m, hm, -, wm⟩ := DataW.trod_string Try.underlying9 g1
    obtain ⟨v, hv, -⟩ := open_vec3 g2
    obtain ⟨v2, hv2, -⟩ := open_vec3 g3
    obtain ⟨v3, hv3, -⟩ := open_vec3 g4
    obtain ⟨q, hq, -, -⟩ := DataW.trod_int Try.underlying3 g5
    simp only [List.cons.injEq, and_true] at hk hm hv hv2 hv3 hq
    exact ⟨⟨k, m, v, v2, v3, q⟩, by rw [hk, hm, hv.1, hv.2.1, hv.2.2, hv2.1, hv2.2.1, hv2.2.2, hv3.1, hv3.2.1, hv3.2.2, hq]; rfl, wk, wm⟩
end
set_option maxRecDepth 100000 in
/-- A row of live nodes that came in. -/
theorem open_items {H : Type} {enc : TypeId × Value → H} {W : World} {base : Nat} {v : Value} {d : DataW H} {p : List MemPlace} (hval : Value.okWide Try.prog W .any base 22 v) (h : DataW.Trod enc Try.prog W 0 (fun _ => true) true 22 v d p) :
    ∃ l : List I12, IRow W l v ∧ ∀ u ∈ l, u.name.size ≤ maxLen ∧ u.parent.size ≤ maxLen := by
  obtain ⟨a0, len, cap, rfl⟩ := okWide_slice Try.underlying22 hval
  obtain ⟨fuel, hf⟩ := h
  rcases DataW.trod_slice Try.underlying22 hf with ⟨e, -⟩ | ⟨a, len', cap', elems, rest, n, -, e, -, hb, hl, hm, hlen, hel, -, -⟩
  · simp [Value.cells] at e
    obtain ⟨rfl, rfl, rfl⟩ := e
    exact ⟨[], IRow.nil W, fun u hu => by cases hu⟩
  · simp only [Value.cells, List.cons.injEq, Value.slice.injEq, and_true] at e
    obtain ⟨rfl, rfl, rfl⟩ := e
    have each : ∀ i, i < len → ∃ u : I12, (W.cell? (a.add (i * 12)) = some (.string u.name) ∧ W.cell? ((a.add (i * 12)).add 1) = some (.string u.parent) ∧ W.cell? ((a.add (i * 12)).add 2) = some (.int .i64 u.lim.c) ∧ W.cell? ((a.add (i * 12)).add 3) = some (.int .i64 u.lim.m) ∧ W.cell? ((a.add (i * 12)).add 4) = some (.int .i64 u.lim.p) ∧ W.cell? ((a.add (i * 12)).add 5) = some (.int .i64 u.own.c) ∧ W.cell? ((a.add (i * 12)).add 6) = some (.int .i64 u.own.m) ∧ W.cell? ((a.add (i * 12)).add 7) = some (.int .i64 u.own.p) ∧ W.cell? ((a.add (i * 12)).add 8) = some (.int .i64 u.sub.c) ∧ W.cell? ((a.add (i * 12)).add 9) = some (.int .i64 u.sub.m) ∧ W.cell? ((a.add (i * 12)).add 10) = some (.int .i64 u.sub.p) ∧ W.cell? ((a.add (i * 12)).add 11) = some (.int .i64 u.ver)) ∧ u.name.size ≤ maxLen ∧ u.parent.size ≤ maxLen := by
      intro i hi
      have he := hel i hi
      rw [List.getElem?_eq_getElem (by omega), cells_item] at he
      obtain ⟨cs', h1, h2⟩ := Option.bind_eq_some_iff.1 he
      obtain ⟨u, rfl, hI⟩ := open_item12 h2
      obtain ⟨-, -, hat⟩ := World.cells?_some h1
      have e0 : (a.add (i * 12)).add 0 = a.add (i * 12) := by simp [Addr.add]
      exact ⟨u, ⟨by have := hat 0 (by omega); rw [e0] at this; exact this, hat 1 (by omega), hat 2 (by omega), hat 3 (by omega), hat 4 (by omega), hat 5 (by omega), hat 6 (by omega), hat 7 (by omega), hat 8 (by omega), hat 9 (by omega), hat 10 (by omega), hat 11 (by omega)⟩, hI⟩
    obtain ⟨U, hU⟩ := Deep.choose_lt each
    refine ⟨(List.range len).map U, ⟨some a, cap, by simp, by simpa using hl, hm, fun i u hu => ?_⟩, fun u hu => ?_⟩
    · have hil : i < len := by
        have := (List.getElem?_eq_some_iff.1 hu).1
        simpa using this
      have hx : u = U i := by
        rw [List.getElem?_map, List.getElem?_range hil] at hu
        simpa using hu.symm
      subst hx
      obtain ⟨⟨c0, c1, c2, c3, c4, c5, c6, c7, c8, c9, c10, c11⟩, -⟩ := hU i hil
      obtain ⟨ab, ao, spot⟩ := a
      have hspot : spot = none := by
        obtain ⟨⟨d0, -⟩, -⟩ := hU 0 (by omega)
        simpa [Addr.add] using World.cell?_spot d0
      subst hspot
      simp only [Addr.add_lit] at c0 c1 c2 c3 c4 c5 c6 c7 c8 c9 c10 c11
      exact ⟨ab, ao, rfl, c0, c1, c2, c3, c4, c5, c6, c7, c8, c9, c10, c11⟩
    · obtain ⟨i, hi, rfl⟩ := List.mem_map.1 hu
      exact (hU i (List.mem_range.1 hi)).2
end Go.Proofs.Ytmpakgabehplbaa
