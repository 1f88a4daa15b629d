/- Rows of values that a call made itself; a store into one of them. -/
import Derived.Test.YtmmdjpogepjdaaaDoorValP
import Derived.Test.YtmmdjpogepjdaaaDoorValH
namespace Go.Proofs.YtmmdjpogepjdaaaDoor
open Go.RowKit
set_option linter.unusedVariables false
set_option linter.unusedSimpArgs false

/-- As RowRd, all blocks of which P holds. -/
def RowIn (w : World) (P : Nat → Prop) : Nat → List VL → Value → Prop
  | 0, l, lv => l = [] ∧ ∃ ao cap, lv = .slice ao 0 cap
  | D + 1, l, lv => l.length ≤ maxLen ∧ ∃ ao cap, lv = .slice ao l.length cap ∧ ∀ (i : Nat) (u : VL), l[i]? = some u → ∃ (g o : Nat) (lu : Value), ao = some ⟨g, o, none⟩ ∧ P g ∧
      w.cell? ⟨g, o + i * 4, none⟩ = some (.int .i64 u.kind) ∧ w.cell? ⟨g, o + i * 4 + 1, none⟩ = some (.int .i64 u.num) ∧ w.cell? ⟨g, o + i * 4 + 2, none⟩ = some (.string u.text) ∧ w.cell? ⟨g, o + i * 4 + 3, none⟩ = some lu ∧ RowIn w P D u.kids lu
theorem RowIn.rd {w : World} {P : Nat → Prop} : ∀ {D : Nat} {l : List VL} {lv : Value}, RowIn w P D l lv → RowRd w D l lv := by
  intro D
  induction D with
  | zero => intro l lv h; exact h
  | succ D ih =>
    intro l lv h
    obtain ⟨hl, ao, cap, rfl, hc⟩ := h
    refine ⟨hl, ao, cap, rfl, fun i u hu => ?_⟩
    obtain ⟨g, o, lu, e, -, c0, c1, c2, c3, hr⟩ := hc i u hu
    exact ⟨g, o, lu, e, c0, c1, c2, c3, ih hr⟩
theorem RowIn.keep {w w' : World} {P Q : Nat → Prop} (hP : ∀ g, P g → Q g) (hk : ∀ (g o : Nat) (u : Value), P g → w.cell? ⟨g, o, none⟩ = some u → w'.cell? ⟨g, o, none⟩ = some u) :
    ∀ {D : Nat} {l : List VL} {lv : Value}, RowIn w P D l lv → RowIn w' Q D l lv := by
  intro D
  induction D with
  | zero => intro l lv h; exact h
  | succ D ih =>
    intro l lv h
    obtain ⟨hl, ao, cap, rfl, hc⟩ := h
    refine ⟨hl, ao, cap, rfl, fun i u hu => ?_⟩
    obtain ⟨g, o, lu, e, hp, c0, c1, c2, c3, hr⟩ := hc i u hu
    exact ⟨g, o, lu, e, hP g hp, hk _ _ _ hp c0, hk _ _ _ hp c1, hk _ _ _ hp c2, hk _ _ _ hp c3, ih hr⟩
/-- One value of the row at g has been stored: x becomes y. -/
structure Upd (x y : World) (g i : Nat) (p : VL × Value) : Prop where
  os : y.os = x.os
  tape : y.tape = x.tape
  output : y.output = x.output
  size : y.heap.size = x.heap.size
  block : ∀ b, b ≠ g → y.heap[b]? = x.heap[b]?
  cell : ∀ o, (o < i * 4 ∨ i * 4 + 4 ≤ o) → y.cell? ⟨g, o, none⟩ = x.cell? ⟨g, o, none⟩
  new0 : y.cell? ⟨g, i * 4, none⟩ = some (.int .i64 p.1.kind)
  new1 : y.cell? ⟨g, i * 4 + 1, none⟩ = some (.int .i64 p.1.num)
  new2 : y.cell? ⟨g, i * 4 + 2, none⟩ = some (.string p.1.text)
  new3 : y.cell? ⟨g, i * 4 + 3, none⟩ = some p.2
  frozen : ∀ o, y.frozen? ⟨g, o, none⟩ = x.frozen? ⟨g, o, none⟩
theorem Upd.drewN {x y : World} {g i : Nat} {p : VL × Value} (h : Upd x y g i p) (n : Nat) : Upd x (y.drewN n) g i p := ⟨h.os, h.tape, h.output, h.size, h.block, h.cell, h.new0, h.new1, h.new2, h.new3, h.frozen⟩
theorem Upd.drew {x y : World} {g i : Nat} {p : VL × Value} (h : Upd x y g i p) : Upd x y.drew g i p := ⟨h.os, h.tape, h.output, h.size, h.block, h.cell, h.new0, h.new1, h.new2, h.new3, h.frozen⟩
theorem set_cell_ne (w : World) (g o o' : Nat) (u : Value) (h : o' ≠ o) : (w.setCell ⟨g, o, none⟩ u).cell? ⟨g, o', none⟩ = w.cell? ⟨g, o', none⟩ :=
  World.cell?_setCell_other _ _ _ _ (by intro e; injection e with e1 e2; exact h (by first | exact e2 | exact e2.symm))
theorem set_cell_eq {w : World} {g o : Nat} {u0 : Value} (u : Value) (h : w.cell? ⟨g, o, none⟩ = some u0) : (w.setCell ⟨g, o, none⟩ u).cell? ⟨g, o, none⟩ = some u := by
  exact World.cell?_setCell_same w ⟨g, o, none⟩ u h
theorem upd4 {x : World} {g i : Nat} {p : VL × Value} {a b c d : Value} (h0 : x.cell? ⟨g, i * 4, none⟩ = some a) (h1 : x.cell? ⟨g, i * 4 + 1, none⟩ = some b) (h2 : x.cell? ⟨g, i * 4 + 2, none⟩ = some c) (h3 : x.cell? ⟨g, i * 4 + 3, none⟩ = some d) :
    Upd x ((((x.setCell ⟨g, i * 4, none⟩ (.int .i64 p.1.kind)).setCell ⟨g, i * 4 + 1, none⟩ (.int .i64 p.1.num)).setCell ⟨g, i * 4 + 2, none⟩ (.string p.1.text)).setCell ⟨g, i * 4 + 3, none⟩ p.2) g i p := by
  refine ⟨rfl, rfl, rfl, by simp [World.setCell], fun b hb => ?_, fun o ho => ?_, ?_, ?_, ?_, ?_, fun o => ?_⟩
  · rw [Below.heap_setCell _ _ _ _ hb, Below.heap_setCell _ _ _ _ hb, Below.heap_setCell _ _ _ _ hb, Below.heap_setCell _ _ _ _ hb]
  · rw [set_cell_ne _ _ _ _ _ (by omega), set_cell_ne _ _ _ _ _ (by omega), set_cell_ne _ _ _ _ _ (by omega), set_cell_ne _ _ _ _ _ (by omega)]
  · rw [set_cell_ne _ _ _ _ _ (by omega), set_cell_ne _ _ _ _ _ (by omega), set_cell_ne _ _ _ _ _ (by omega)]
    exact set_cell_eq _ h0
  · rw [set_cell_ne _ _ _ _ _ (by omega), set_cell_ne _ _ _ _ _ (by omega)]
    exact set_cell_eq _ ((set_cell_ne _ _ _ _ _ (by omega)).trans h1)
  · rw [set_cell_ne _ _ _ _ _ (by omega)]
    exact set_cell_eq _ (((set_cell_ne _ _ _ _ _ (by omega)).trans (set_cell_ne _ _ _ _ _ (by omega))).trans h2)
  · exact set_cell_eq _ ((((set_cell_ne _ _ _ _ _ (by omega)).trans (set_cell_ne _ _ _ _ _ (by omega))).trans (set_cell_ne _ _ _ _ _ (by omega))).trans h3)
  · rw [World.frozen?_setCell, World.frozen?_setCell, World.frozen?_setCell, World.frozen?_setCell]
theorem Upd.below {x y w : World} {g i : Nat} {p : VL × Value} (h : Upd x y g i p) (hg : w.heap.size ≤ g) (hb : Below w.heap.size w x) : Below w.heap.size w y :=
  ⟨h.os.trans hb.os, h.tape.trans hb.tape, h.output.trans hb.output, by rw [h.size]; exact hb.size, fun b hlt => (h.block b (by omega)).trans (hb.block b hlt)⟩
theorem Upd.far {x y : World} {g i : Nat} {p : VL × Value} (h : Upd x y g i p) {b o : Nat} {u : Value} (hb : b ≠ g) (hc : x.cell? ⟨b, o, none⟩ = some u) : y.cell? ⟨b, o, none⟩ = some u :=
  (World.cell?_of_block (a := ⟨b, o, none⟩) (h.block b hb)).trans hc
theorem Upd.row {x y : World} {g i : Nat} {p : VL × Value} (h : Upd x y g i p) {qs : List (VL × Value)} (hq : CellsAt x g 0 qs) (hi : i < qs.length) : CellsAt y g 0 (qs.set i p) := by
  intro j q hj
  by_cases e : j = i
  · subst e
    rw [List.getElem?_set_self hi] at hj
    cases hj
    simp only [Nat.zero_add]
    exact ⟨h.new0, h.new1, h.new2, h.new3⟩
  · rw [List.getElem?_set_ne (by omega)] at hj
    obtain ⟨c0, c1, c2, c3⟩ := hq j q hj
    simp only [Nat.zero_add] at c0 c1 c2 c3 ⊢
    exact ⟨(h.cell _ (by omega)).trans c0, (h.cell _ (by omega)).trans c1, (h.cell _ (by omega)).trans c2, (h.cell _ (by omega)).trans c3⟩
end Go.Proofs.YtmmdjpogepjdaaaDoor
