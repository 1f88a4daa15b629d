/- Package val: clone at any depth; List; Index of a list at a number. -/
import Derived.Test.YtoaachefdbepiaaDoorValS
namespace Go.Proofs.YtoaachefdbepiaaDoor
open Go.RowKit
set_option linter.unusedVariables false
set_option linter.unusedSimpArgs false

theorem vclone : ∀ D, CloneOf D := by
  intro D
  induction D with
  | zero => exact vclone_step 0 (fun h => absurd h (Nat.lt_irrefl _))
  | succ D ih => exact vclone_step (D + 1) (fun _ => ih)
/-- What a call tells that answers a value in memory of its own. -/
def Gives (D : Nat) (k n : Int) (s : ByteArray) (l : List VL) (w : World) (e : Ending) (w' : World) : Prop :=
  ∃ lv, e = .returned (.tuple #[.agg #[.int .i64 k, .int .i64 n, .string s, lv], .int .i64 0]) ∧ RowIn w' (fun g => w.heap.size ≤ g) D l lv ∧ Below w.heap.size w w'
theorem set4_in {w : World} {P : Nat → Prop} {D g : Nat} {l : List VL} {lv : Value} (h : RowIn w P D l lv) (hg : ¬ P g) (a b c d : Value) :
    RowIn ((((w.setCell ⟨g, 0, none⟩ a).setCell ⟨g, 1, none⟩ b).setCell ⟨g, 2, none⟩ c).setCell ⟨g, 3, none⟩ d) P D l lv := by
  refine RowIn.keep (fun _ h => h) (fun b o z hb hz => ?_) h
  have hne : ∀ k, (⟨g, k, none⟩ : Addr) ≠ ⟨b, o, none⟩ := fun k e => by injection e with e1 e2; rw [e1] at hg; exact hg hb
  rw [World.cell?_setCell_other _ _ _ _ (hne _), World.cell?_setCell_other _ _ _ _ (hne _), World.cell?_setCell_other _ _ _ _ (hne _), World.cell?_setCell_other _ _ _ _ (hne _)]
  exact hz
section
variable (w : World)
set_option maxHeartbeats 2000000 in
set_option maxRecDepth 20000 in
theorem vlist_bad (D : Nat) (l : List VL) (lv : Value) (h : RowRd w D l lv) (hm : mayB 64 (vlist l) = false) : Calls Tryd.prog 48 #[lv] w (IsTold 0 0 ⟨#[]⟩ 4 w) := by
  have M := Lib.hid (fun W (hw : Below w.heap.size w W) => by have := vMay W D (vlist l) lv (h.below hw); rw [hm] at this; exact this)
  obtain ⟨lao, lcap, rfl⟩ := h.shape
  clear h hm
  go_enter Tryd.func48, Tryd.ntmps48
  go_wp2_with fail
  refine (M.out _ ?_).mono ?_
  · exact below_al (below_al (Below.refl _ _) _) _
  rintro e w1 ⟨rfl, hb1⟩
  obtain ⟨⟨r0, r1, r2, r3, rl⟩, f0, f1, f2, f3⟩ := (((NBlk.new w 0 0 ⟨#[]⟩).al (.cells #[.int .i64 4, .int .i64 0, .string ⟨#[]⟩, .slice lao l.length lcap] 26)).below hb1).full
  have B1 := Lib.hid (below_tr (below_al (below_al (Below.refl _ _) _) _) hb1)
  clear hb1
  go_wp2_with fail
  exact bodyPost_ret (v := .tuple #[.agg #[.int .i64 0, .int .i64 0, .string ⟨#[]⟩, .slice none 0 0], .int .i64 4]) (by simp [results, Tryd.results48, go_sem, r0, r1, r2, r3]) rfl ⟨rfl, below_set4 B1.out (Nat.le_refl _) _ _ _ _⟩
set_option maxHeartbeats 2000000 in
set_option maxRecDepth 20000 in
theorem vlist_ok (D : Nat) (l : List VL) (lv : Value) (h : RowRd w D l lv) (hm : mayB 64 (vlist l) = true) : Calls Tryd.prog 48 #[lv] w (Gives D 4 0 ⟨#[]⟩ l w) := by
  have M := Lib.hid (fun W (hw : Below w.heap.size w W) => by have := vMay W D (vlist l) lv (h.below hw); rw [hm] at this; exact this)
  have C := Lib.hid (fun W (hw : Below w.heap.size w W) => (vclone D).call 64 (vlist l) lv W (h.below hw) hm)
  obtain ⟨lao, lcap, rfl⟩ := h.shape
  clear h hm
  go_enter Tryd.func48, Tryd.ntmps48
  go_wp2_with fail
  refine (M.out _ ?_).mono ?_
  · exact below_al (below_al (Below.refl _ _) _) _
  rintro e w1 ⟨rfl, hb1⟩
  have X := Lib.hid ((VBlk.new (w.alloc (.cells #[.int .i64 0, .int .i64 0, .string ⟨#[]⟩, .slice none 0 0] 26)) (vlist l) (.slice lao l.length lcap)).below hb1)
  have R := Lib.hid (((NBlk.new w 0 0 ⟨#[]⟩).al (.cells #[.int .i64 4, .int .i64 0, .string ⟨#[]⟩, .slice lao l.length lcap] 26)).below hb1)
  have B1 := Lib.hid (below_tr (below_al (below_al (Below.refl _ _) _) _) hb1)
  rw [show (w.alloc (.cells #[.int .i64 0, .int .i64 0, .string ⟨#[]⟩, .slice none 0 0] 26)).heap.size = w.heap.size + 1 by simp] at X
  clear hb1
  obtain ⟨x0, x1, x2, x3⟩ := X.out.cells
  go_wp2_with fail
  refine (C.out _ B1.out).mono ?_
  rintro e w2 ⟨lv', rfl, hin, hb2⟩
  have hin2 := RowIn.keep (Q := fun g => w1.heap.size ≤ g) (fun g hg => hg) (fun _ _ _ _ h => h) hin
  obtain ⟨lao', lcap', rfl⟩ := hin2.rd.shape
  have HIN := Lib.hid hin2
  obtain ⟨⟨r0, r1, r2, r3, rl⟩, f0, f1, f2, f3⟩ := (R.out.below hb2).full
  have B2 := Lib.hid (below_tr B1.out hb2)
  have hlt := R.out.lt
  clear hin hin2 hb2 x0 x1 x2 x3
  go_wp2_with fail
  refine bodyPost_ret (v := .tuple #[.agg #[.int .i64 4, .int .i64 0, .string ⟨#[]⟩, .slice lao' l.length lcap'], .int .i64 0]) ?_ rfl ⟨.slice lao' l.length lcap', rfl, ?_, below_set4 B2.out (Nat.le_refl _) _ _ _ _⟩
  · simp [results, Tryd.results48, go_sem, r0, r1, r2, r3, vlist, VL.kind, VL.num, VL.text, VL.kids]
  · exact RowIn.keep (fun g hg => by have := B1.out.size; omega) (fun _ _ _ _ h => h) (set4_in HIN.out (by omega) _ _ _ _)
end
end Go.Proofs.YtoaachefdbepiaaDoor
