/- Rows of values with their own rows' slices; package slices: Clone at values. -/
import Derived.Test.YtndeihmclecmcaaGreatDoorValN
import Derived.Laws.AppendOwn
import Derived.Laws.OwnMore
namespace Go.Proofs.YtndeihmclecmcaaGreatDoor
open Go.RowKit
set_option linter.unusedVariables false
set_option linter.unusedSimpArgs false

def pairCells (p : VL × Value) : List Value := [.int .i64 p.1.kind, .int .i64 p.1.num, .string p.1.text, p.2]
def rowCells (ps : List (VL × Value)) : List Value := ps.flatMap pairCells
theorem rowCells_len (ps : List (VL × Value)) : (rowCells ps).length = ps.length * 4 := by
  induction ps with
  | nil => rfl
  | cons p ps ih => unfold rowCells at ih ⊢; simp [pairCells] at ih ⊢; omega
theorem rowCells_get : ∀ (ps : List (VL × Value)) (j : Nat) (u : Value), (rowCells ps)[j]? = some u → ∃ i r p, j = i * 4 + r ∧ r < 4 ∧ ps[i]? = some p ∧ (pairCells p)[r]? = some u := by
  intro ps
  induction ps with
  | nil => intro j u h; simp [rowCells] at h
  | cons p ps ih =>
    intro j u h
    have e : rowCells (p :: ps) = pairCells p ++ rowCells ps := rfl
    rw [e] at h
    by_cases hj : j < 4
    · rw [List.getElem?_append_left (by simp [pairCells]; omega)] at h
      exact ⟨0, j, p, by omega, hj, rfl, h⟩
    · rw [List.getElem?_append_right (by simp [pairCells]; omega)] at h
      obtain ⟨i, r, q, h1, h2, h3, h4⟩ := ih _ _ h
      have h5 : (pairCells p).length = 4 := rfl
      rw [h5] at h1
      exact ⟨i + 1, r, q, by omega, h2, by simpa using h3, h4⟩
theorem rowCells_at : ∀ (ps : List (VL × Value)) (i r : Nat) (p : VL × Value) (u : Value), ps[i]? = some p → r < 4 → (pairCells p)[r]? = some u → (rowCells ps)[i * 4 + r]? = some u := by
  intro ps
  induction ps with
  | nil => intro i r p u h; simp at h
  | cons a ps ih =>
    intro i r p u h hr hu
    have e : rowCells (a :: ps) = pairCells a ++ rowCells ps := rfl
    rw [e]
    cases i with
    | zero =>
      simp at h; subst h
      rw [List.getElem?_append_left (by simp [pairCells]; omega)]
      simpa using hu
    | succ i =>
      rw [List.getElem?_append_right (by simp [pairCells]; omega)]
      have h5 : (pairCells a).length = 4 := rfl
      rw [h5, show (i + 1) * 4 + r - 4 = i * 4 + r by omega]
      exact ih i r p u (by simpa using h) hr hu
theorem rowCells_one (ps : List (VL × Value)) (hs : ∀ p ∈ ps, ∃ ao n cap, p.2 = .slice ao n cap) : ∀ u ∈ rowCells ps, u.oneCell' = true := by
  intro u hu
  unfold rowCells at hu
  rw [List.mem_flatMap] at hu
  obtain ⟨p, hp, hu⟩ := hu
  obtain ⟨ao, n, cap, e⟩ := hs p hp
  simp [pairCells] at hu
  rcases hu with rfl | rfl | rfl | rfl
  · rfl
  · rfl
  · rfl
  · rw [e]; rfl
/-- The cells of a row of values at a place. -/
def CellsAt (w : World) (g o : Nat) (ps : List (VL × Value)) : Prop := ∀ i p, ps[i]? = some p → w.cell? ⟨g, o + i * 4, none⟩ = some (.int .i64 p.1.kind) ∧ w.cell? ⟨g, o + i * 4 + 1, none⟩ = some (.int .i64 p.1.num) ∧ w.cell? ⟨g, o + i * 4 + 2, none⟩ = some (.string p.1.text) ∧ w.cell? ⟨g, o + i * 4 + 3, none⟩ = some p.2
theorem RowRd.pairs {w : World} {D : Nat} {l : List VL} {lv : Value} (h : RowRd w D l lv) :
    ∃ ps : List (VL × Value), ps.map (·.1) = l ∧ (∀ p ∈ ps, 0 < D ∧ RowRd w (D - 1) p.1.kids p.2) ∧ ∃ ao cap, lv = .slice ao l.length cap ∧ (l ≠ [] → ∃ g o, ao = some ⟨g, o, none⟩ ∧ g < w.heap.size ∧ CellsAt w g o ps) := by
  obtain ⟨ao, cap, rfl, hat⟩ := h.at
  by_cases h0 : l = []
  · subst h0
    exact ⟨[], rfl, (fun p h => by simp at h), ao, cap, rfl, fun h => absurd rfl h⟩
  · obtain ⟨g, o, lu0, rfl, -, z0, -⟩ := hat 0 (l[0]'(List.length_pos_iff.2 h0)) (List.getElem?_eq_getElem _)
    have hk : ∀ k, k ≤ l.length → ∃ ps : List (VL × Value), ps.map (·.1) = l.take k ∧ (∀ p ∈ ps, 0 < D ∧ RowRd w (D - 1) p.1.kids p.2) ∧ CellsAt w g o ps := by
      intro k
      induction k with
      | zero => intro _; exact ⟨[], by simp, (fun p h => by simp at h), fun i p h => by simp at h⟩
      | succ k ih =>
        intro hk
        obtain ⟨ps, h1, h2, h3⟩ := ih (by omega)
        obtain ⟨u, hu⟩ : ∃ u, l[k]? = some u := ⟨_, List.getElem?_eq_getElem (by omega)⟩
        obtain ⟨g', o', lu, e, hD, c0, c1, c2, c3, hr⟩ := hat k u hu
        simp at e
        obtain ⟨rfl, rfl⟩ := e
        have hlen : ps.length = k := by
          have := congrArg List.length h1
          simp at this; omega
        refine ⟨ps ++ [(u, lu)], by rw [List.map_append, h1, List.take_add_one, hu]; rfl, fun p hp => ?_, fun i p hp => ?_⟩
        · rcases List.mem_append.1 hp with hp | hp
          · exact h2 p hp
          · simp at hp; subst hp; exact ⟨hD, hr⟩
        · by_cases hi : i < k
          · rw [List.getElem?_append_left (by omega)] at hp
            exact h3 i p hp
          · rw [List.getElem?_append_right (by omega)] at hp
            have hik : i = k := by
              have := (List.getElem?_eq_some_iff.1 hp).1
              simp at this; omega
            subst hik
            simp [hlen] at hp
            subst hp
            exact ⟨c0, c1, c2, c3⟩
    obtain ⟨ps, h1, h2, h3⟩ := hk l.length (Nat.le_refl _)
    rw [List.take_length] at h1
    exact ⟨ps, h1, h2, _, cap, rfl, fun _ => ⟨g, o, rfl, World.block_lt_of_cell? w _ z0, h3⟩⟩
theorem info_val : (Tryz.prog.info? 39).map (fun i => (i.zero, i.size, i.bytes)) = some (some (.agg #[.int .i64 0, .int .i64 0, .string ⟨#[]⟩, .slice none 0 0]), 4, 56) := by kernel_rfl
end Go.Proofs.YtndeihmclecmcaaGreatDoor
