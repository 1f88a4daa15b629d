/- Package val: Index of a list at a number. -/
import Derived.Test.YtmmdjpogepjdaaaDoorValU
namespace Go.Proofs.YtmmdjpogepjdaaaDoor
open Go.RowKit
set_option linter.unusedVariables false
set_option linter.unusedSimpArgs false

section
variable (w : World)
set_option maxHeartbeats 4000000 in
set_option maxRecDepth 20000 in
theorem vindex_none (D : Nat) (l : List VL) (lv : Value) (n : Int) (h : RowRd w D l lv) (hn : n < 0 ∨ (l.length : Int) ≤ n) :
    Calls Tryd.prog 12 #[.agg #[.int .i64 4, .int .i64 0, .string ⟨#[]⟩, lv], .agg #[.int .i64 1, .int .i64 n, .string ⟨#[]⟩, .slice none 0 0]] w (IsTold 0 0 ⟨#[]⟩ 2 w) := by
  have H := Lib.hid h
  have A1 := Lib.hid (show allB 4 [vlist l] = true by simp [allB, vlist, VL.kind])
  have A2 := Lib.hid (show allB 1 [vnum n] = true by simp [allB, vnum, VL.kind])
  have hl := h.len
  unfold maxLen at hl
  obtain ⟨lao, lcap, rfl⟩ := h.shape
  clear h
  go_enter Tryd.func12, Tryd.ntmps12
  go_wp2_with fail
  have X := Lib.hid (show VBlk (((w.alloc (.cells #[.int .i64 4, .int .i64 0, .string ⟨#[]⟩, .slice lao l.length lcap] 24)).alloc (.cells #[.int .i64 1, .int .i64 n, .string ⟨#[]⟩, .slice none 0 0] 24)).alloc (.cells #[.int .i64 0, .int .i64 0, .string ⟨#[]⟩, .slice none 0 0] 24)) w.heap.size (vlist l) (.slice lao l.length lcap) from ((VBlk.new w (vlist l) (.slice lao l.length lcap)).below (below_al (Below.refl _ _) (.cells #[.int .i64 1, .int .i64 n, .string ⟨#[]⟩, .slice none 0 0] 24))).below (below_al (Below.refl _ _) (.cells #[.int .i64 0, .int .i64 0, .string ⟨#[]⟩, .slice none 0 0] 24)))
  have Y := Lib.hid ((NBlk.new (w.alloc (.cells #[.int .i64 4, .int .i64 0, .string ⟨#[]⟩, .slice lao l.length lcap] 24)) 1 n ⟨#[]⟩).al (.cells #[.int .i64 0, .int .i64 0, .string ⟨#[]⟩, .slice none 0 0] 24))
  have R := Lib.hid (NBlk.new ((w.alloc (.cells #[.int .i64 4, .int .i64 0, .string ⟨#[]⟩, .slice lao l.length lcap] 24)).alloc (.cells #[.int .i64 1, .int .i64 n, .string ⟨#[]⟩, .slice none 0 0] 24)) 0 0 ⟨#[]⟩)
  rw [show (w.alloc (.cells #[.int .i64 4, .int .i64 0, .string ⟨#[]⟩, .slice lao l.length lcap] 24)).heap.size = w.heap.size + 1 by simp] at Y
  rw [show ((w.alloc (.cells #[.int .i64 4, .int .i64 0, .string ⟨#[]⟩, .slice lao l.length lcap] 24)).alloc (.cells #[.int .i64 1, .int .i64 n, .string ⟨#[]⟩, .slice none 0 0] 24)).heap.size = w.heap.size + 1 + 1 by simp] at R
  have K := Lib.hid (show Kept w _ from below_al (below_al (below_al (Below.refl w.heap.size w) (.cells #[.int .i64 4, .int .i64 0, .string ⟨#[]⟩, .slice lao l.length lcap] 24)) (.cells #[.int .i64 1, .int .i64 n, .string ⟨#[]⟩, .slice none 0 0] 24)) (.cells #[.int .i64 0, .int .i64 0, .string ⟨#[]⟩, .slice none 0 0] 24))
  have hw3 : (((w.alloc (.cells #[.int .i64 4, .int .i64 0, .string ⟨#[]⟩, .slice lao l.length lcap] 24)).alloc (.cells #[.int .i64 1, .int .i64 n, .string ⟨#[]⟩, .slice none 0 0] 24)).alloc (.cells #[.int .i64 0, .int .i64 0, .string ⟨#[]⟩, .slice none 0 0] 24)).heap.size = w.heap.size + 1 + 1 + 1 := by simp
  have HW3 := Lib.hid hw3
  clear hw3
  generalize ((w.alloc (.cells #[.int .i64 4, .int .i64 0, .string ⟨#[]⟩, .slice lao l.length lcap] 24)).alloc (.cells #[.int .i64 1, .int .i64 n, .string ⟨#[]⟩, .slice none 0 0] 24)).alloc (.cells #[.int .i64 0, .int .i64 0, .string ⟨#[]⟩, .slice none 0 0] 24) = w3 at *
  rw [← HW3.out]
  have KB : Below w.heap.size w w3 := K.out
  refine (vall _ (D + 1) 4 [vlist l] _ (row_one (v := vlist l) (heap_at rfl) (H.out.below (below_al KB _)))).mono ?_
  rw [A1.out]
  rintro e w1 ⟨rfl, hb⟩
  replace X := Lib.hid ((X.out.below (below_al (Below.refl _ _) _)).below hb)
  replace Y := Lib.hid ((Y.out.al _).below hb)
  replace R := Lib.hid ((R.out.al _).below hb)
  replace K := Lib.hid (kept_tr (kept_al K.out _) hb)
  clear hb KB
  obtain ⟨y0, y1, y2, y3, yl⟩ := Y.out.cells
  go_wp2_with fail
  clear y0 y1 y2 y3 yl
  refine (vall _ 1 1 [vnum n] _ (row_one (v := vnum n) (heap_at rfl) (RowRd.nil _ 0 none 0))).mono ?_
  rw [A2.out]
  rintro e w2 ⟨rfl, hb⟩
  replace X := Lib.hid ((X.out.below (below_al (Below.refl _ _) _)).below hb)
  replace Y := Lib.hid ((Y.out.al _).below hb)
  replace R := Lib.hid ((R.out.al _).below hb)
  replace K := Lib.hid (kept_tr (kept_al K.out _) hb)
  clear hb
  obtain ⟨y0, y1, y2, y3, yl⟩ := Y.out.cells
  obtain ⟨x0, x1, x2, x3⟩ := X.out.cells
  obtain ⟨⟨r0, r1, r2, r3, rl⟩, f0, f1, f2, f3⟩ := R.out.full
  have LE := Lib.hid (show w.heap.size ≤ w.heap.size + 1 + 1 by omega)
  by_cases hneg : n < 0
  · clear hn
    go_wp2_with fail
    exact bodyPost_ret (v := .tuple #[.agg #[.int .i64 0, .int .i64 0, .string ⟨#[]⟩, .slice none 0 0], .int .i64 2]) (by simp [results, Tryd.results12, go_sem, r0, r1, r2, r3]) rfl ⟨rfl, below_set4 K.out LE.out _ _ _ _⟩
  · have hge : (l.length : Int) ≤ n := by omega
    clear hn
    go_wp2_with fail
    exact bodyPost_ret (v := .tuple #[.agg #[.int .i64 0, .int .i64 0, .string ⟨#[]⟩, .slice none 0 0], .int .i64 2]) (by simp [results, Tryd.results12, go_sem, r0, r1, r2, r3]) rfl ⟨rfl, below_set4 K.out LE.out _ _ _ _⟩
set_option maxHeartbeats 4000000 in
set_option maxRecDepth 20000 in
theorem vindex_at (D : Nat) (d : Nat) (l : List VL) (lv : Value) (i : Nat) (u : VL) (n : Int) (hni : n = (i : Int)) (h : RowRd w D l lv) (hu : l[i]? = some u) (hm : mayB d u = true) :
    Calls Tryd.prog 12 #[.agg #[.int .i64 4, .int .i64 0, .string ⟨#[]⟩, lv], .agg #[.int .i64 1, .int .i64 n, .string ⟨#[]⟩, .slice none 0 0]] w (Gives (D - 1) u.kind u.num u.text u.kids w) := by
  have hlt : i < l.length := (List.getElem?_eq_some_iff.1 hu).1
  have HN := Lib.hid hni
  have HU := Lib.hid hu
  have hn0 : 0 ≤ n := by omega
  have hn1 : n < (l.length : Int) := by omega
  clear hni hu
  have H := Lib.hid h
  have A1 := Lib.hid (show allB 4 [vlist l] = true by simp [allB, vlist, VL.kind])
  have A2 := Lib.hid (show allB 1 [vnum n] = true by simp [allB, vnum, VL.kind])
  have hl := h.len
  unfold maxLen at hl
  obtain ⟨lao, lcap, rfl⟩ := h.shape
  clear h
  go_enter Tryd.func12, Tryd.ntmps12
  go_wp2_with fail
  have X := Lib.hid (show VBlk (((w.alloc (.cells #[.int .i64 4, .int .i64 0, .string ⟨#[]⟩, .slice lao l.length lcap] 24)).alloc (.cells #[.int .i64 1, .int .i64 n, .string ⟨#[]⟩, .slice none 0 0] 24)).alloc (.cells #[.int .i64 0, .int .i64 0, .string ⟨#[]⟩, .slice none 0 0] 24)) w.heap.size (vlist l) (.slice lao l.length lcap) from ((VBlk.new w (vlist l) (.slice lao l.length lcap)).below (below_al (Below.refl _ _) (.cells #[.int .i64 1, .int .i64 n, .string ⟨#[]⟩, .slice none 0 0] 24))).below (below_al (Below.refl _ _) (.cells #[.int .i64 0, .int .i64 0, .string ⟨#[]⟩, .slice none 0 0] 24)))
  have Y := Lib.hid ((NBlk.new (w.alloc (.cells #[.int .i64 4, .int .i64 0, .string ⟨#[]⟩, .slice lao l.length lcap] 24)) 1 n ⟨#[]⟩).al (.cells #[.int .i64 0, .int .i64 0, .string ⟨#[]⟩, .slice none 0 0] 24))
  have R := Lib.hid (NBlk.new ((w.alloc (.cells #[.int .i64 4, .int .i64 0, .string ⟨#[]⟩, .slice lao l.length lcap] 24)).alloc (.cells #[.int .i64 1, .int .i64 n, .string ⟨#[]⟩, .slice none 0 0] 24)) 0 0 ⟨#[]⟩)
  rw [show (w.alloc (.cells #[.int .i64 4, .int .i64 0, .string ⟨#[]⟩, .slice lao l.length lcap] 24)).heap.size = w.heap.size + 1 by simp] at Y
  rw [show ((w.alloc (.cells #[.int .i64 4, .int .i64 0, .string ⟨#[]⟩, .slice lao l.length lcap] 24)).alloc (.cells #[.int .i64 1, .int .i64 n, .string ⟨#[]⟩, .slice none 0 0] 24)).heap.size = w.heap.size + 1 + 1 by simp] at R
  have K := Lib.hid (show Kept w _ from below_al (below_al (below_al (Below.refl w.heap.size w) (.cells #[.int .i64 4, .int .i64 0, .string ⟨#[]⟩, .slice lao l.length lcap] 24)) (.cells #[.int .i64 1, .int .i64 n, .string ⟨#[]⟩, .slice none 0 0] 24)) (.cells #[.int .i64 0, .int .i64 0, .string ⟨#[]⟩, .slice none 0 0] 24))
  have hw3 : (((w.alloc (.cells #[.int .i64 4, .int .i64 0, .string ⟨#[]⟩, .slice lao l.length lcap] 24)).alloc (.cells #[.int .i64 1, .int .i64 n, .string ⟨#[]⟩, .slice none 0 0] 24)).alloc (.cells #[.int .i64 0, .int .i64 0, .string ⟨#[]⟩, .slice none 0 0] 24)).heap.size = w.heap.size + 1 + 1 + 1 := by simp
  have HW3 := Lib.hid hw3
  clear hw3
  generalize ((w.alloc (.cells #[.int .i64 4, .int .i64 0, .string ⟨#[]⟩, .slice lao l.length lcap] 24)).alloc (.cells #[.int .i64 1, .int .i64 n, .string ⟨#[]⟩, .slice none 0 0] 24)).alloc (.cells #[.int .i64 0, .int .i64 0, .string ⟨#[]⟩, .slice none 0 0] 24) = w3 at *
  rw [← HW3.out]
  have KB : Below w.heap.size w w3 := K.out
  refine (vall _ (D + 1) 4 [vlist l] _ (row_one (v := vlist l) (heap_at rfl) (H.out.below (below_al KB _)))).mono ?_
  rw [A1.out]
  rintro e w1 ⟨rfl, hb⟩
  replace X := Lib.hid ((X.out.below (below_al (Below.refl _ _) _)).below hb)
  replace Y := Lib.hid ((Y.out.al _).below hb)
  replace R := Lib.hid ((R.out.al _).below hb)
  replace K := Lib.hid (kept_tr (kept_al K.out _) hb)
  clear hb KB
  obtain ⟨y0, y1, y2, y3, yl⟩ := Y.out.cells
  go_wp2_with fail
  clear y0 y1 y2 y3 yl
  refine (vall _ 1 1 [vnum n] _ (row_one (v := vnum n) (heap_at rfl) (RowRd.nil _ 0 none 0))).mono ?_
  rw [A2.out]
  rintro e w2 ⟨rfl, hb⟩
  replace X := Lib.hid ((X.out.below (below_al (Below.refl _ _) _)).below hb)
  replace Y := Lib.hid ((Y.out.al _).below hb)
  replace R := Lib.hid ((R.out.al _).below hb)
  replace K := Lib.hid (kept_tr (kept_al K.out _) hb)
  clear hb
  obtain ⟨y0, y1, y2, y3, yl⟩ := Y.out.cells
  obtain ⟨x0, x1, x2, x3⟩ := X.out.cells
  obtain ⟨ao2, cap2, e2, hat⟩ := (H.out.below (show Below w.heap.size w w2 from K.out)).at
  simp only [Value.slice.injEq, true_and] at e2
  obtain ⟨rfl, rfl⟩ := e2
  obtain ⟨g, o, lu, rfl, -, c0, c1, c2, c3, hr⟩ := hat i u HU.out
  obtain ⟨uao, ucap, rfl⟩ := hr.shape
  have C := Lib.hid ((vclone (D - 1)).call d u _ w2 hr hm)
  clear hat hr hm
  have hnn := HN.out
  subst hnn
  go_wp2_with fail
  refine C.out.mono ?_
  rintro e w4 ⟨lv', rfl, hin, hb2⟩
  obtain ⟨lao', lcap', rfl⟩ := hin.rd.shape
  have HIN := Lib.hid hin
  obtain ⟨⟨r0, r1, r2, r3, rl⟩, f0, f1, f2, f3⟩ := (R.out.below hb2).full
  have B2 := Lib.hid (below_tr (show Below w.heap.size w w2 from K.out) hb2)
  have hlt2 := R.out.lt
  have KS := Lib.hid (show w.heap.size ≤ w2.heap.size from Below.size (show Below w.heap.size w w2 from K.out))
  clear hin hb2 x0 x1 x2 x3 y0 y1 y2 y3 yl c0 c1 c2 c3
  go_wp2_with fail
  refine bodyPost_ret (v := .tuple #[.agg #[.int .i64 u.kind, .int .i64 u.num, .string u.text, .slice lao' u.kids.length lcap'], .int .i64 0]) ?_ rfl ⟨.slice lao' u.kids.length lcap', rfl, ?_, below_set4 B2.out (by omega) _ _ _ _⟩
  · simp [results, Tryd.results12, go_sem, r0, r1, r2, r3]
  · exact RowIn.keep (fun g hg => by have := KS.out; omega) (fun _ _ _ _ h => h) (set4_in HIN.out (by omega) _ _ _ _)
end
end Go.Proofs.YtmmdjpogepjdaaaDoor
