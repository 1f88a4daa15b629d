/- Package val: One. -/
import Derived.Test.YtndeihmclecmcaaGreatDoorValC
namespace Go.Proofs.YtndeihmclecmcaaGreatDoor
open Go.RowKit
set_option linter.unusedVariables false
set_option linter.unusedSimpArgs false

theorem row_one {w : World} {D g : Nat} {v : VL} {lv : Value} (hg : w.heap[g]? = some (.cells #[.int .i64 v.kind, .int .i64 v.num, .string v.text, lv] 39 (0, 0))) (hr : RowRd w D v.kids lv) :
    RowRd w (D + 1) [v] (.slice (some ⟨g, 0, none⟩) 1 1) := by
  refine ⟨by simp [maxLen], _, _, rfl, fun i u hu => ?_⟩
  cases i with
  | zero =>
    simp at hu; subst hu
    exact ⟨g, 0, lv, rfl, cell_of_row w g 0 _ _ _ hg, cell_of_row w g 1 _ _ _ hg, cell_of_row w g 2 _ _ _ hg, cell_of_row w g 3 _ _ _ hg, hr⟩
  | succ i => simp at hu
theorem row_two {w : World} {D g : Nat} {v u : VL} {lv lu : Value} (hg : w.heap[g]? = some (.cells #[.int .i64 v.kind, .int .i64 v.num, .string v.text, lv, .int .i64 u.kind, .int .i64 u.num, .string u.text, lu] 39 (0, 0)))
    (hr : RowRd w D v.kids lv) (hs : RowRd w D u.kids lu) : RowRd w (D + 1) [v, u] (.slice (some ⟨g, 0, none⟩) 2 2) := by
  refine ⟨by simp [maxLen], _, _, rfl, fun i x hx => ?_⟩
  match i, hx with
  | 0, hx =>
    simp at hx; subst hx
    exact ⟨g, 0, lv, rfl, cell_of_row w g 0 _ _ _ hg, cell_of_row w g 1 _ _ _ hg, cell_of_row w g 2 _ _ _ hg, cell_of_row w g 3 _ _ _ hg, hr⟩
  | 1, hx =>
    simp at hx; subst hx
    exact ⟨g, 0, lu, rfl, cell_of_row w g 4 _ _ _ hg, cell_of_row w g 5 _ _ _ hg, cell_of_row w g 6 _ _ _ hg, cell_of_row w g 7 _ _ _ hg, hs⟩
  | n + 2, hx => simp at hx
def oneR (k : Int) (v : VL) : VL × Int :=
  if k = 8 then (if v.kind = 3 then (vbool (v.num == 0), 0) else (vz, 7)) else if k = 9 then (if v.kind = 1 then numR (fitR (0 - v.num)) else (vz, 7)) else (vz, 1)
section
variable (w : World)
set_option maxRecDepth 20000
theorem vone_b (D : Nat) (v : VL) (lv : Value) (h : RowRd w D v.kids lv) (hk : v.kind = 3) :
    Calls Tryz.prog 126 #[.int .i64 8, .agg #[.int .i64 v.kind, .int .i64 v.num, .string v.text, lv]] w (Told (vbool (v.num == 0), 0) w) := by
  have H := Lib.hid h
  have AB := Lib.hid (show allB 3 [v] = true by simp [allB, hk])
  obtain ⟨lao, lcap, rfl⟩ := h.shape
  clear hk h
  go_enter Tryz.func126, Tryz.ntmps126
  go_wp2_with fail
  with_reducible refine (vall _ (D + 1) 3 [v] _ (row_one ?hg (H.out.below ?b))).mono ?_
  case hg => exact heap_at (by simp)
  case b => exact (below_al (below_al (below_al (Below.refl w.heap.size w) _) _) _)
  rw [AB.out]
  rintro e w1 ⟨rfl, hb1⟩
  obtain ⟨hc, hf⟩ := bcell hb1
  have B1 := Lib.hid (below_tr (below_al (below_al (below_al (Below.refl w.heap.size w) _) _) _) hb1)
  have z0 : w.heap.size < w1.heap.size := by have := hb1.size; simp at this; omega
  have z1 : w.heap.size + 1 < w1.heap.size := by have := hb1.size; simp at this; omega
  clear hb1
  go_wp2_with fail
  with_reducible refine (vboolean _ _).mono ?_
  rintro e w2 ⟨rfl, hb2⟩
  obtain ⟨hc2, hf2⟩ := bcell hb2
  have B2 := Lib.hid (below_tr B1.out hb2)
  clear hb2
  go_wp2_with fail
  exact bodyPost_ret (v := .tuple #[.agg #[.int .i64 (vbool (v.num == 0)).kind, .int .i64 (vbool (v.num == 0)).num, .string (vbool (v.num == 0)).text, .slice none 0 0], .int .i64 0]) (by simp [results, Tryz.results126, go_sem, hc, hc2, z0, z1]) rfl ⟨rfl, below_set4 (B2.out) (by omega) _ _ _ _⟩
theorem vone_bt (D : Nat) (v : VL) (lv : Value) (h : RowRd w D v.kids lv) (hk : ¬ v.kind = 3) :
    Calls Tryz.prog 126 #[.int .i64 8, .agg #[.int .i64 v.kind, .int .i64 v.num, .string v.text, lv]] w (Told (vz, 7) w) := by
  have H := Lib.hid h
  have AB := Lib.hid (show allB 3 [v] = false by simp [allB, hk])
  obtain ⟨lao, lcap, rfl⟩ := h.shape
  clear hk h
  go_enter Tryz.func126, Tryz.ntmps126
  go_wp2_with fail
  with_reducible refine (vall _ (D + 1) 3 [v] _ (row_one ?hg (H.out.below ?b))).mono ?_
  case hg => exact heap_at (by simp)
  case b => exact (below_al (below_al (below_al (Below.refl w.heap.size w) _) _) _)
  rw [AB.out]
  rintro e w1 ⟨rfl, hb1⟩
  obtain ⟨hc, hf⟩ := bcell hb1
  have B1 := Lib.hid (below_tr (below_al (below_al (below_al (Below.refl w.heap.size w) _) _) _) hb1)
  have z0 : w.heap.size < w1.heap.size := by have := hb1.size; simp at this; omega
  have z1 : w.heap.size + 1 < w1.heap.size := by have := hb1.size; simp at this; omega
  clear hb1
  go_wp2_with fail
  exact bodyPost_ret (v := .tuple #[.agg #[.int .i64 0, .int .i64 0, .string ⟨#[]⟩, .slice none 0 0], .int .i64 7]) (by simp [results, Tryz.results126, go_sem, hc, z0, z1]) rfl ⟨rfl, below_set4 (B1.out) (by omega) _ _ _ _⟩
theorem vone_nt (D : Nat) (v : VL) (lv : Value) (h : RowRd w D v.kids lv) (hk : ¬ v.kind = 1) :
    Calls Tryz.prog 126 #[.int .i64 9, .agg #[.int .i64 v.kind, .int .i64 v.num, .string v.text, lv]] w (Told (vz, 7) w) := by
  have H := Lib.hid h
  have AB := Lib.hid (show allB 1 [v] = false by simp [allB, hk])
  obtain ⟨lao, lcap, rfl⟩ := h.shape
  clear hk h
  go_enter Tryz.func126, Tryz.ntmps126
  go_wp2_with fail
  with_reducible refine (vall _ (D + 1) 1 [v] _ (row_one ?hg (H.out.below ?b))).mono ?_
  case hg => exact heap_at (by simp)
  case b => exact (below_al (below_al (below_al (Below.refl w.heap.size w) _) _) _)
  rw [AB.out]
  rintro e w1 ⟨rfl, hb1⟩
  obtain ⟨hc, hf⟩ := bcell hb1
  have B1 := Lib.hid (below_tr (below_al (below_al (below_al (Below.refl w.heap.size w) _) _) _) hb1)
  have z0 : w.heap.size < w1.heap.size := by have := hb1.size; simp at this; omega
  have z1 : w.heap.size + 1 < w1.heap.size := by have := hb1.size; simp at this; omega
  clear hb1
  go_wp2_with fail
  exact bodyPost_ret (v := .tuple #[.agg #[.int .i64 0, .int .i64 0, .string ⟨#[]⟩, .slice none 0 0], .int .i64 7]) (by simp [results, Tryz.results126, go_sem, hc, z0, z1]) rfl ⟨rfl, below_set4 (B1.out) (by omega) _ _ _ _⟩
theorem vone_n (D : Nat) (v : VL) (lv : Value) (h : RowRd w D v.kids lv) (hk : v.kind = 1) (hi : I64 v.num) :
    Calls Tryz.prog 126 #[.int .i64 9, .agg #[.int .i64 v.kind, .int .i64 v.num, .string v.text, lv]] w (Told (numR (fitR (0 - v.num))) w) := by
  have H := Lib.hid h
  have SB := Lib.hid (fun W => vsub W 0 v.num (by unfold I64; omega) hi)
  generalize hfr : fitR (0 - v.num) = fr at *
  clear hfr hi
  have AB := Lib.hid (show allB 1 [v] = true by simp [allB, hk])
  obtain ⟨lao, lcap, rfl⟩ := h.shape
  clear hk h
  go_enter Tryz.func126, Tryz.ntmps126
  go_wp2_with fail
  with_reducible refine (vall _ (D + 1) 1 [v] _ (row_one ?hg (H.out.below ?b))).mono ?_
  case hg => exact heap_at (by simp)
  case b => exact (below_al (below_al (below_al (Below.refl w.heap.size w) _) _) _)
  rw [AB.out]
  rintro e w1 ⟨rfl, hb1⟩
  obtain ⟨hc, hf⟩ := bcell hb1
  have B1 := Lib.hid (below_tr (below_al (below_al (below_al (Below.refl w.heap.size w) _) _) _) hb1)
  have z0 : w.heap.size < w1.heap.size := by have := hb1.size; simp at this; omega
  have z1 : w.heap.size + 1 < w1.heap.size := by have := hb1.size; simp at this; omega
  clear hb1
  go_wp2_with fail
  with_reducible refine (SB.out _).mono ?_
  rintro e w' ⟨rfl, rfl⟩
  go_wp2_with fail
  with_reducible refine (vnumber _ _ _).mono ?_
  rintro e w2 ⟨rfl, hb2⟩
  obtain ⟨hc2, hf2⟩ := bcell hb2
  have B2 := Lib.hid (below_tr B1.out hb2)
  clear hb2
  go_wp2_with fail
  exact bodyPost_ret (v := .tuple #[.agg #[.int .i64 (numR fr).1.kind, .int .i64 (numR fr).1.num, .string (numR fr).1.text, .slice none 0 0], .int .i64 (numR fr).2]) (by simp [results, Tryz.results126, go_sem, hc, hc2, z0, z1]) rfl ⟨rfl, below_set4 (B2.out) (by omega) _ _ _ _⟩
theorem vone_x (v : VL) (lao : Option Addr) (ln lcap : Nat) (k : Int) (h8 : ¬ k = 8) (h9 : ¬ k = 9) :
    Calls Tryz.prog 126 #[.int .i64 k, .agg #[.int .i64 v.kind, .int .i64 v.num, .string v.text, .slice lao ln lcap]] w (Told (vz, 1) w) := by
  have g8 : (k == 8) = false := by simpa using h8
  have g9 : (k == 9) = false := by simpa using h9
  clear h8 h9
  go_enter Tryz.func126, Tryz.ntmps126
  go_wp2_with fail
  exact bodyPost_ret (v := .tuple #[.agg #[.int .i64 0, .int .i64 0, .string ⟨#[]⟩, .slice none 0 0], .int .i64 1]) (by simp [results, Tryz.results126, go_sem]) rfl ⟨rfl, below_al (below_al (Below.refl _ _) _) _⟩
theorem vone (D : Nat) (v : VL) (lv : Value) (k : Int) (h : RowRd w D v.kids lv) (hi : I64 v.num) :
    Calls Tryz.prog 126 #[.int .i64 k, .agg #[.int .i64 v.kind, .int .i64 v.num, .string v.text, lv]] w (Told (oneR k v) w) := by
  unfold oneR
  by_cases h8 : k = 8
  · subst h8
    rw [if_pos rfl]
    by_cases hk : v.kind = 3
    · rw [if_pos hk]; exact vone_b w D v lv h hk
    · rw [if_neg hk]; exact vone_bt w D v lv h hk
  · rw [if_neg h8]
    by_cases h9 : k = 9
    · subst h9
      rw [if_pos rfl]
      by_cases hk : v.kind = 1
      · rw [if_pos hk]; exact vone_n w D v lv h hk hi
      · rw [if_neg hk]; exact vone_nt w D v lv h hk
    · rw [if_neg h9]
      obtain ⟨lao, lcap, rfl⟩ := h.shape
      exact vone_x w v _ _ _ k h8 h9
end
end Go.Proofs.YtndeihmclecmcaaGreatDoor
