/- Rows of values that came in: as deep as their reading. -/
import Derived.Test.YtmmdjpogepjdaaaDoorValH
import Derived.ProofKit
import Derived.ChangeSlices
import Derived.ChangeOld
import Derived.OpenShut
import Derived.ShutString
import Derived.LaidMore
import Derived.Deep.Slices
namespace Go.Proofs.YtmmdjpogepjdaaaDoor
open Go.ChangeShapes Go.WideShapes Go.ChangeAt Go.RowKit
set_option linter.unusedVariables false
set_option linter.unusedSimpArgs false

instance : Inhabited VL := ⟨.mk 0 0 ⟨#[]⟩ []⟩
/-- All numbers within are of 64 bits. -/
def AllI : Nat → List VL → Prop
  | 0, l => l = []
  | D + 1, l => ∀ u ∈ l, I64 u.num ∧ I64 u.kind ∧ AllI D u.kids
theorem allI_nil (D : Nat) : AllI D [] := by
  cases D with
  | zero => rfl
  | succ D => intro u hu; cases hu
theorem allI_up : ∀ {D E : Nat} {l : List VL}, AllI D l → D ≤ E → AllI E l := by
  intro D
  induction D with
  | zero => intro E l h _; obtain rfl : l = [] := h; exact allI_nil E
  | succ D ih =>
    intro E l h hE
    cases E with
    | zero => omega
    | succ E => intro u hu; exact ⟨(h u hu).1, (h u hu).2.1, ih (h u hu).2.2 (by omega)⟩
theorem cells_val : Tryd.prog.cellsOf 24 = 4 := by kernel_rfl
theorem cells_i : Tryd.prog.cellsOf 3 = 1 := by kernel_rfl
theorem cells_s : Tryd.prog.cellsOf 9 = 1 := by kernel_rfl
theorem cells_l : Tryd.prog.cellsOf 22 = 1 := by kernel_rfl
section
variable {H : Type} {enc : TypeId × Value → H} {W : World}
set_option maxRecDepth 100000 in
/-- One value, read out of its four cells. -/
theorem open_val4 {n : Nat} {cs : List Value} {y : DataW H × List MemPlace} (h : DataW.trod enc Tryd.prog W 0 (fun _ => true) true n 24 cs = some y) :
    ∃ (n' : Nat) (k m : Int) (s : ByteArray) (lv : Value) (z : DataW H × List MemPlace), n = n' + 1 ∧ cs = [.int .i64 k, .int .i64 m, .string s, lv] ∧ I64 k ∧ I64 m ∧ s.size ≤ maxLen ∧ DataW.trod enc Tryd.prog W 0 (fun _ => true) true n' 22 [lv] = some z := by
  obtain ⟨xs, n', hn, -, hl, hxl, hf⟩ := DataW.trod_struct Tryd.underlying24 h
  rw [cells_val] at hl
  match cs, hl with
  | [c0, c1, c2, c3], _ =>
    have hx : xs.length = 4 := hxl
    have g0 : DataW.trod enc Tryd.prog W 0 (fun _ => true) true n' 3 ((([c0, c1, c2, c3] : List Value).drop 0).take (Tryd.prog.cellsOf 3)) = xs[0]? := hf 0 _ rfl
    rw [cells_i] at g0
    replace g0 : DataW.trod enc Tryd.prog W 0 (fun _ => true) true n' 3 [c0] = xs[0]? := g0
    have g1 : DataW.trod enc Tryd.prog W 0 (fun _ => true) true n' 3 ((([c0, c1, c2, c3] : List Value).drop 1).take (Tryd.prog.cellsOf 3)) = xs[1]? := hf 1 _ rfl
    rw [cells_i] at g1
    replace g1 : DataW.trod enc Tryd.prog W 0 (fun _ => true) true n' 3 [c1] = xs[1]? := g1
    have g2 : DataW.trod enc Tryd.prog W 0 (fun _ => true) true n' 9 ((([c0, c1, c2, c3] : List Value).drop 2).take (Tryd.prog.cellsOf 9)) = xs[2]? := hf 2 _ rfl
    rw [cells_s] at g2
    replace g2 : DataW.trod enc Tryd.prog W 0 (fun _ => true) true n' 9 [c2] = xs[2]? := g2
    have g3 : DataW.trod enc Tryd.prog W 0 (fun _ => true) true n' 22 ((([c0, c1, c2, c3] : List Value).drop 3).take (Tryd.prog.cellsOf 22)) = xs[3]? := hf 3 _ rfl
    rw [cells_l] at g3
    replace g3 : DataW.trod enc Tryd.prog W 0 (fun _ => true) true n' 22 [c3] = xs[3]? := g3
    rw [List.getElem?_eq_getElem (by omega)] at g0 g1 g2 g3
    obtain ⟨k, hk, -, wk⟩ := DataW.trod_int Tryd.underlying3 g0
    obtain ⟨m, hm, -, wm⟩ := DataW.trod_int Tryd.underlying3 g1
    obtain ⟨s, hs, -, ws⟩ := DataW.trod_string Tryd.underlying9 g2
    simp only [List.cons.injEq, and_true] at hk hm hs
    simp only [Lit.wf, Bool.and_eq_true, decide_eq_true_eq] at wk wm
    exact ⟨n', k, m, s, c3, _, hn, by rw [hk, hm, hs], wk, wm, ws, g3⟩
set_option maxRecDepth 100000 in
theorem open_vals_at : ∀ (fuel : Nat) (cs : List Value) (x : DataW H × List MemPlace), DataW.trod enc Tryd.prog W 0 (fun _ => true) true fuel 22 cs = some x →
    ∃ (l : List VL) (lv : Value), cs = [lv] ∧ RowRd W fuel l lv ∧ AllI fuel l := by
  intro fuel
  induction fuel using Nat.strongRecOn with
  | _ fuel ih =>
    intro cs x h
    rcases DataW.trod_slice Tryd.underlying22 h with ⟨rfl, -⟩ | ⟨a, len, cap, elems, rest, n, rfl, rfl, -, hb, hl, hm, hlen, hel, -, -⟩
    · exact ⟨[], .slice none 0 0, rfl, RowRd.nil _ _ _ _, allI_nil _⟩
    · have each : ∀ i, i < len → ∃ u : VL, ∃ lu : Value, W.cell? (a.add (i * 4)) = some (.int .i64 u.kind) ∧ W.cell? ((a.add (i * 4)).add 1) = some (.int .i64 u.num) ∧ W.cell? ((a.add (i * 4)).add 2) = some (.string u.text) ∧ W.cell? ((a.add (i * 4)).add 3) = some lu ∧ RowRd W n u.kids lu ∧ I64 u.num ∧ I64 u.kind ∧ AllI n u.kids := by
        intro i hi
        have he := hel i hi
        rw [List.getElem?_eq_getElem (by omega), cells_val] at he
        obtain ⟨cs', h1, h2⟩ := Option.bind_eq_some_iff.1 he
        obtain ⟨n', k, m, s, lv, z, rfl, rfl, hk, hm', hs, h3⟩ := open_val4 h2
        obtain ⟨kids, lv', e, hr, ha⟩ := ih n' (by omega) _ _ h3
        simp only [List.cons.injEq, and_true] at e
        subst e
        obtain ⟨-, -, hat⟩ := World.cells?_some h1
        have e0 : (a.add (i * 4)).add 0 = a.add (i * 4) := by simp [Addr.add]
        exact ⟨.mk k m s kids, lv, by have := hat 0 (by omega); rw [e0] at this; exact this, hat 1 (by omega), hat 2 (by omega), hat 3 (by omega), hr.up (by omega), hm', hk, allI_up ha (by omega)⟩
      obtain ⟨U, hU⟩ := Deep.choose_lt each
      refine ⟨(List.range len).map U, _, rfl, ⟨by simp; omega, some a, cap, by simp, fun i u hu => ?_⟩, fun u hu => ?_⟩
      · have hil : i < len := by
          have := (List.getElem?_eq_some_iff.1 hu).1
          simpa using this
        have hx : u = U i := by
          rw [List.getElem?_map, List.getElem?_range hil] at hu
          simpa using hu.symm
        subst hx
        obtain ⟨lu, c0, c1, c2, c3, hr, -, -, -⟩ := hU i hil
        obtain ⟨ab, ao, spot⟩ := a
        have hspot : spot = none := by
          obtain ⟨-, d0, -⟩ := hU 0 (by omega)
          simpa [Addr.add] using World.cell?_spot d0
        subst hspot
        simp only [Addr.add_lit] at c0 c1 c2 c3
        exact ⟨ab, ao, lu, rfl, c0, c1, c2, c3, hr⟩
      · obtain ⟨i, hi, rfl⟩ := List.mem_map.1 hu
        obtain ⟨lu, -, -, -, -, -, h1, h2, h3⟩ := hU i (List.mem_range.1 hi)
        exact ⟨h1, h2, h3⟩
end
set_option maxRecDepth 100000 in
/-- A row of values that came in. -/
theorem open_vals {H : Type} {enc : TypeId × Value → H} {W : World} {base : Nat} {v : Value} {d : DataW H} {p : List MemPlace} (hval : Value.okWide Tryd.prog W .any base 22 v) (h : DataW.Trod enc Tryd.prog W 0 (fun _ => true) true 22 v d p) :
    ∃ (D : Nat) (l : List VL), RowRd W D l v ∧ AllI D l := by
  obtain ⟨a0, len, cap, rfl⟩ := okWide_slice Tryd.underlying22 hval
  obtain ⟨fuel, hf⟩ := h
  obtain ⟨l, lv, e, hr, ha⟩ := open_vals_at fuel _ _ hf
  simp only [Value.cells, List.cons.injEq, and_true] at e
  subst e
  exact ⟨fuel, l, hr, ha⟩
end Go.Proofs.YtmmdjpogepjdaaaDoor
