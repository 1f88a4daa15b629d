/- The document's List. -/
import Derived.Test.YtoaachefdbepiaaDoorValMg
import Derived.Test.YtoaachefdbepiaaDoorValMd
namespace Go.Proofs.YtoaachefdbepiaaDoor
open Go.RowKit
set_option linter.unusedVariables false
set_option linter.unusedSimpArgs false

theorem own_new' (w V : World) (B : Nat) (hB : B ≤ V.heap.size) : (V.alloc (.cells #[] 26)).ownsRow B 26 4 (.slice (some ⟨V.heap.size, 0, none⟩) 0 0) 0 [] :=
  ⟨by simp, .inr ⟨V.heap.size, 0, #[], rfl, hB, heap_alloc_new V _, Nat.le_refl _, Nat.zero_le _, by simp, by simp⟩⟩
theorem rowIn_of_rd {w : World} : ∀ {D : Nat} {l : List VL} {lv : Value}, RowRd w D l lv → RowIn w (fun g => g < w.heap.size) D l lv := by
  intro D
  induction D with
  | zero => intro l lv h; exact h
  | succ D ih =>
    intro l lv h
    obtain ⟨hl, ao, cap, rfl, hc⟩ := h
    refine ⟨hl, ao, cap, rfl, fun i u hu => ?_⟩
    obtain ⟨g, o, lu, e, c0, c1, c2, c3, hr⟩ := hc i u hu
    exact ⟨g, o, lu, e, World.block_lt_of_cell? _ _ c0, c0, c1, c2, c3, ih hr⟩
theorem set5_in {w : World} {P : Nat → Prop} {D g : Nat} {l : List VL} {lv : Value} (h : RowIn w P D l lv) (hg : ¬ P g) (a b c d f : Value) :
    RowIn (((((w.setCell ⟨g, 0, none⟩ a).setCell ⟨g, 1, none⟩ b).setCell ⟨g, 2, none⟩ c).setCell ⟨g, 3, none⟩ d).setCell ⟨g, 4, none⟩ f) P D l lv := by
  refine RowIn.keep (fun _ h => h) (fun b o z hb hz => ?_) (set4_in h hg a b c d)
  have hne : (⟨g, 4, none⟩ : Addr) ≠ ⟨b, o, none⟩ := fun e => by injection e with e1 e2; rw [e1] at hg; exact hg hb
  rw [World.cell?_setCell_other _ _ _ _ hne]
  exact hz
/-- The block of the document's answer. -/
def GBlk (w : World) (g : Nat) : Prop := w.heap[g]? = some (.cells #[.int .i64 0, .int .i64 0, .string ⟨#[]⟩, .slice none 0 0, .int .i64 0] 32 (0, 0))
theorem GBlk.full {w : World} {g : Nat} (h : GBlk w g) :
    (w.cell? ⟨g, 0, none⟩ = some (.int .i64 0) ∧ w.cell? ⟨g, 1, none⟩ = some (.int .i64 0) ∧ w.cell? ⟨g, 2, none⟩ = some (.string ⟨#[]⟩) ∧ w.cell? ⟨g, 3, none⟩ = some (.slice none 0 0) ∧ w.cell? ⟨g, 4, none⟩ = some (.int .i64 0)) ∧
    (w.frozen? ⟨g, 0, none⟩ = false ∧ w.frozen? ⟨g, 1, none⟩ = false ∧ w.frozen? ⟨g, 2, none⟩ = false ∧ w.frozen? ⟨g, 3, none⟩ = false ∧ w.frozen? ⟨g, 4, none⟩ = false) ∧ g < w.heap.size := by
  have h : w.heap[g]? = some (.cells #[.int .i64 0, .int .i64 0, .string ⟨#[]⟩, .slice none 0 0, .int .i64 0] 32 (0, 0)) := h
  have f : ∀ o, w.frozen? ⟨g, o, none⟩ = false := fun o => by simp [World.frozen?, h]
  exact ⟨⟨cell_of_row w g 0 _ _ _ h, cell_of_row w g 1 _ _ _ h, cell_of_row w g 2 _ _ _ h, cell_of_row w g 3 _ _ _ h, cell_of_row w g 4 _ _ _ h⟩, ⟨f 0, f 1, f 2, f 3, f 4⟩, (Array.getElem?_eq_some_iff.1 h).1⟩
section
variable (w : World)
set_option maxRecDepth 20000
set_option maxHeartbeats 4000000 in
theorem rlist_ok (D : Nat) (l : List VL) (lv : Value) (h : RowRd w D l lv) (hl : l.length ≤ 64) (hd : deepI 64 (vlist l) ≤ 64) : Calls Tryd.prog 23 #[lv] w (DocR (D - 1 + 1) (vlist l, 0) w) := by
  have H := Lib.hid h
  have HD := Lib.hid hd
  obtain ⟨i0, hi0, hz0, hz1, hz2⟩ := info_parts info_val
  obtain ⟨lao, lcap, rfl⟩ := h.shape
  obtain ⟨qs, hq1, hq2, hq3, hq4, hq5⟩ := row_src h
  have Q1 := Lib.hid hq1
  have Q2 := Lib.hid hq2
  have Q3 := Lib.hid hq3
  have Q4 := Lib.hid hq4
  have Q5 := Lib.hid hq5
  have QI := Lib.hid (fun p hp => rowIn_of_rd (hq3 p hp))
  clear h hd hq1 hq2 hq3 hq4 hq5
  have OW := Lib.hid (own_new' w (w.alloc (.cells #[.int .i64 0, .int .i64 0, .string ⟨#[]⟩, .slice none 0 0, .int .i64 0] 32)) (w.heap.size + 1) (by simp))
  rw [show (w.alloc (.cells #[.int .i64 0, .int .i64 0, .string ⟨#[]⟩, .slice none 0 0, .int .i64 0] 32)).heap.size = w.heap.size + 1 by simp] at OW
  have BW := Lib.hid (show Below w.heap.size w _ from below_al (below_al (Below.refl w.heap.size w) (.cells #[.int .i64 0, .int .i64 0, .string ⟨#[]⟩, .slice none 0 0, .int .i64 0] 32)) (.cells #[] 26))
  have GB := Lib.hid (show ((w.alloc (.cells #[.int .i64 0, .int .i64 0, .string ⟨#[]⟩, .slice none 0 0, .int .i64 0] 32)).alloc (.cells #[] 26)).heap[w.heap.size]? = some (.cells #[.int .i64 0, .int .i64 0, .string ⟨#[]⟩, .slice none 0 0, .int .i64 0] 32 (0, 0)) from (Below.block (below_al (Below.refl _ _) _) _ (by simp)).trans (heap_alloc_new w _))
  go_enter Tryd.func23, Tryd.ntmps23
  go_wp2_with (at_builtin; refine wpList_append_any _ rfl _ _ 22 rfl (w.heap.size + 1) 26 i0 _ 4 56 Tryd.underlying22 hi0 hz0 hz1 hz2 rfl (by decide) (.slice (some ⟨w.heap.size + 1, 0, none⟩) 0 0) 0 [] rfl OW.out lao l.length lcap (rowCells qs) rfl ?a1 Q4.out ?a2 ?b1 ?c1 ?d1 ?e1 ?_)
  case a1 => rw [rowCells_len, Q2.out]
  case a2 => exact fun ad had j u hj => hold BW.out (Q5.out ad had j u hj)
  case b1 => exact Q3.out.one
  case c1 => unfold maxLen; omega
  case d1 => omega
  case e1 => simp
  intro v' w6 hown hgrow
  have B6 := Lib.hid (below_grown' BW.out hgrow (fun k hk => by have h := (World.ownsRow.lt OW.out k hk).1; omega))
  have G6 := Lib.hid ((hgrow.block _ (by simp; omega) (fun e => by have h := (World.ownsRow.lt OW.out _ e.symm).1; omega)).trans GB.out)
  have RD := Lib.hid (row_of_own (D := D - 1) (by rw [Q2.out]; exact hown) (by rw [Q2.out]; unfold maxLen; omega) (Q3.out.below B6.out))
  have RI := Lib.hid (rowIn_of_own (P := fun b => b ≠ w.heap.size) (D := D - 1) (by rw [Q2.out]; exact hown) (by rw [Q2.out]; unfold maxLen; omega) (fun p hp => RowIn.keep (Q := fun g => g < w.heap.size) (fun _ h => h) (fun b o z h hz => (B6.out.cell (p := ⟨b, o, none⟩) h).trans hz) (QI.out p hp)) (fun b h => Nat.ne_of_lt h) (fun b h => by omega))
  rw [Q1.out] at RD RI
  obtain ⟨vo, vc, rfl⟩ := own_len hown
  clear hown hgrow
  have DP := Lib.hid (fun W (hW : Below w6.heap.size w6 W) => (rdeep 64 (Nat.le_refl _)).call (D - 1 + 1) (vlist l) (.slice vo l.length vc) W (RD.out.below hW))
  have hdd := HD.out
  generalize deepI 64 (vlist l) = dd at *
  have hl2 : ¬ (64 : Int) < (l.length : Int) := by omega
  go_wp2_with fail
  refine (DP.out _ (below_al (Below.refl _ _) _)).mono ?_
  rintro e w7 ⟨rfl, hb7⟩
  have B7 := Lib.hid (below_tr (below_al (Below.refl w6.heap.size w6) (.cells #[.int .i64 4, .int .i64 0, .string ⟨#[]⟩, .slice vo l.length vc] 26)) hb7)
  have X := Lib.hid ((VBlk.new w6 (vlist l) (.slice vo l.length vc)).below hb7)
  obtain ⟨x0, x1, x2, x3⟩ := X.out.cells
  have R7 := Lib.hid (RD.out.below B7.out)
  have G7 := Lib.hid (show GBlk w7 w.heap.size from (B7.out.block _ (Array.getElem?_eq_some_iff.1 G6.out).1).trans G6.out)
  obtain ⟨⟨r0, r1, r2, r3, r4⟩, ⟨f0, f1, f2, f3, f4⟩, rl⟩ := G7.out.full
  replace x0 : w7.cell? ⟨w6.heap.size, 0, none⟩ = some (.int .i64 4) := x0
  replace x1 : w7.cell? ⟨w6.heap.size, 1, none⟩ = some (.int .i64 0) := x1
  replace x2 : w7.cell? ⟨w6.heap.size, 2, none⟩ = some (.string ⟨#[]⟩) := x2
  have hw6 := X.out.lt
  have RZ := Lib.hid (RowIn.keep (Q := fun b => b ≠ w.heap.size) (fun _ h => h.1) (fun b o z h hz => (B7.out.cell (p := ⟨b, o, none⟩) h.2).trans hz) (rowIn_lt RI.out))
  have BZ := Lib.hid (below_tr B6.out B7.out)
  clear hb7 R7
  have hdd2 : ¬ 64 < dd := by omega
  go_wp2_with fail
  refine bodyPost_ret (v := .agg #[.int .i64 4, .int .i64 0, .string ⟨#[]⟩, .slice vo l.length vc, .int .i64 0]) (by simp [results, Tryd.results23, go_sem, r0, r1, r2, r3, r4]) rfl ⟨.slice vo l.length vc, rfl, ?_, ?_⟩
  · exact (set5_in RZ.out (by simp) _ _ _ _ _).rd
  · exact below_set5 BZ.out (Nat.le_refl _) _ _ _ _ _
end
end Go.Proofs.YtoaachefdbepiaaDoor
