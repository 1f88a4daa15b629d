/- The law of what is refused: what its calls tell. -/
import Derived.Test.YtihlbnflgjidaabDoorFunG
import Derived.Test.YtihlbnflgjidaabDoorOwnV
namespace Go.Proofs.YtihlbnflgjidaabDoor
open Go.RowKit
set_option linter.unusedVariables false
set_option linter.unusedSimpArgs false

def refNames : List ByteArray := [⟨#[109, 105, 110]⟩, ⟨#[109, 97, 120]⟩, ⟨#[99, 111, 110, 99, 97, 116]⟩, ⟨#[115, 117, 109]⟩, ⟨#[108, 101, 110]⟩, ⟨#[114, 97, 110, 103, 101]⟩, ⟨#[97, 98, 115]⟩, ⟨#[116, 101, 120, 116]⟩, ⟨#[106, 111, 105, 110]⟩, ⟨#[104, 97, 115]⟩]
def refR (r k : Nat) : Int := if k = 0 ∨ (2 < r ∧ r < 8 ∧ k ≠ 1) ∨ (8 ≤ r ∧ k ≠ 2) then 1 else if r = 7 then 0 else 7
def bad1 : List VL := []
def bools (k : Nat) : List VL := List.replicate k (VL.mk 3 0 ⟨#[]⟩ [])
/-- A call that tells just this error. -/
def Errs (c : Int) (w : World) (e : Ending) (w' : World) : Prop := ∃ kk n t, IsTold kk n t c w e w'
theorem errs {kk n : Int} {t : ByteArray} {c : Int} {w w' : World} {e : Ending} (h : IsTold kk n t c w e w') : Errs c w e w' := ⟨kk, n, t, h⟩
section
variable (w : World)
theorem ref_call (r : Nat) (nm : ByteArray) (hnm : refNames[r]? = some nm) (k : Nat) (hk : k < 4) (lv : Value) (h : RowRd w 1 (bools k) lv) :
    Calls Tryd.prog 8 #[.string nm, lv] w (Errs (refR r k) w) := by
  have hk4 : k = 0 ∨ k = 1 ∨ k = 2 ∨ k = 3 := by omega
  clear hk
  match r, hnm with
  | 0, hnm =>
    simp only [refNames, List.getElem?_cons_zero, Option.some.injEq] at hnm; subst hnm
    rcases hk4 with rfl | rfl | rfl | rfl
    all_goals exact (call_bad w _ [1] true 15 fnamed_min (takes_one 1 (by omega)) 1 _ lv h _ rfl (by decide)).mono fun e w' h => errs h
  | 1, hnm =>
    simp only [refNames, List.getElem?_cons_succ, List.getElem?_cons_zero, Option.some.injEq] at hnm; subst hnm
    rcases hk4 with rfl | rfl | rfl | rfl
    all_goals exact (call_bad w _ [1] true 16 fnamed_max (takes_one 1 (by omega)) 1 _ lv h _ rfl (by decide)).mono fun e w' h => errs h
  | 2, hnm =>
    simp only [refNames, List.getElem?_cons_succ, List.getElem?_cons_zero, Option.some.injEq] at hnm; subst hnm
    rcases hk4 with rfl | rfl | rfl | rfl
    all_goals exact (call_bad w _ [3] true 19 fnamed_concat (takes_one 3 (by omega)) 1 _ lv h _ rfl (by decide)).mono fun e w' h => errs h
  | 3, hnm =>
    simp only [refNames, List.getElem?_cons_succ, List.getElem?_cons_zero, Option.some.injEq] at hnm; subst hnm
    rcases hk4 with rfl | rfl | rfl | rfl
    all_goals exact (call_bad w _ [4] false 17 fnamed_sum (takes_one 4 (by omega)) 1 _ lv h _ rfl (by decide)).mono fun e w' h => errs h
  | 4, hnm =>
    simp only [refNames, List.getElem?_cons_succ, List.getElem?_cons_zero, Option.some.injEq] at hnm; subst hnm
    rcases hk4 with rfl | rfl | rfl | rfl
    all_goals exact (call_bad w _ [6] false 18 fnamed_len (takes_one 6 (by omega)) 1 _ lv h _ rfl (by decide)).mono fun e w' h => errs h
  | 5, hnm =>
    simp only [refNames, List.getElem?_cons_succ, List.getElem?_cons_zero, Option.some.injEq] at hnm; subst hnm
    rcases hk4 with rfl | rfl | rfl | rfl
    all_goals exact (call_bad w _ [1] false 21 fnamed_range (takes_one 1 (by omega)) 1 _ lv h _ rfl (by decide)).mono fun e w' h => errs h
  | 6, hnm =>
    simp only [refNames, List.getElem?_cons_succ, List.getElem?_cons_zero, Option.some.injEq] at hnm; subst hnm
    rcases hk4 with rfl | rfl | rfl | rfl
    all_goals exact (call_bad w _ [1] false 22 fnamed_abs (takes_one 1 (by omega)) 1 _ lv h _ rfl (by decide)).mono fun e w' h => errs h
  | 7, hnm =>
    simp only [refNames, List.getElem?_cons_succ, List.getElem?_cons_zero, Option.some.injEq] at hnm; subst hnm
    rcases hk4 with rfl | rfl | rfl | rfl
    · exact (call_bad w _ [0] false 24 fnamed_text (takes_one 0 (by omega)) 1 _ lv h _ rfl (by decide)).mono fun e w' h => errs h
    · exact (call_text w 1 (VL.mk 3 0 ⟨#[]⟩ []) lv h _ 0 fun lao ln lcap V => vtext_b V (VL.mk 3 0 ⟨#[]⟩ []) lao ln lcap rfl).mono fun e w' h => errs h
    · exact (call_bad w _ [0] false 24 fnamed_text (takes_one 0 (by omega)) 1 _ lv h _ rfl (by decide)).mono fun e w' h => errs h
    · exact (call_bad w _ [0] false 24 fnamed_text (takes_one 0 (by omega)) 1 _ lv h _ rfl (by decide)).mono fun e w' h => errs h
  | 8, hnm =>
    simp only [refNames, List.getElem?_cons_succ, List.getElem?_cons_zero, Option.some.injEq] at hnm; subst hnm
    rcases hk4 with rfl | rfl | rfl | rfl
    all_goals exact (call_bad w _ [2, 5] false 20 fnamed_join (takes_two 2 5 (by omega) (by omega)) 1 _ lv h _ rfl (by decide)).mono fun e w' h => errs h
  | 9, hnm =>
    simp only [refNames, List.getElem?_cons_succ, List.getElem?_cons_zero, Option.some.injEq] at hnm; subst hnm
    rcases hk4 with rfl | rfl | rfl | rfl
    all_goals exact (call_bad w _ [3, 0] false 23 fnamed_has (takes_two 3 0 (by omega) (by omega)) 1 _ lv h _ rfl (by decide)).mono fun e w' h => errs h
  | n + 10, hnm => simp [refNames] at hnm
def noNameB (s : ByteArray) : Bool := !(s.toList == [109, 105, 110]) && !(s.toList == [109, 97, 120]) && !(s.toList == [115, 117, 109]) && !(s.toList == [108, 101, 110]) && !(s.toList == [99, 111, 110, 99, 97, 116]) && !(s.toList == [106, 111, 105, 110]) && !(s.toList == [114, 97, 110, 103, 101]) && !(s.toList == [97, 98, 115]) && !(s.toList == [104, 97, 115]) && !(s.toList == [116, 101, 120, 116])
theorem noName_of {s : ByteArray} (h : noNameB s = true) : noName s := by
  unfold noNameB at h
  simp only [Bool.and_eq_true, Bool.not_eq_true'] at h
  obtain ⟨⟨⟨⟨⟨⟨⟨⟨⟨h0, h1⟩, h2⟩, h3⟩, h4⟩, h5⟩, h6⟩, h7⟩, h8⟩, h9⟩ := h
  exact ⟨h0, h1, h2, h3, h4, h5, h6, h7, h8, h9⟩
theorem ref_x (nm : ByteArray) (h : nm ∈ refNames) : noName (nm ++ ⟨#[120]⟩) := by
  have hall : (refNames.all fun x => noNameB (x ++ ⟨#[120]⟩)) = true := by kernel_rfl
  exact noName_of (List.all_eq_true.1 hall nm h)
theorem ref_size (nm : ByteArray) (h : nm ∈ refNames) : nm.size ≤ 6 := by
  have hall : (refNames.all fun x => decide (x.size ≤ 6)) = true := by kernel_rfl
  exact of_decide_eq_true (List.all_eq_true.1 hall nm h)
theorem ref_text (r : Nat) (nm : ByteArray) (h : refNames[r]? = some nm) : (nm.toList == [116, 101, 120, 116]) = (r == 7) := by
  have hall : ((List.range 10).all fun r => ((refNames.getD r ⟨#[]⟩).toList == [116, 101, 120, 116]) == (r == 7)) = true := by kernel_rfl
  have hr : r < 10 := by
    have := (List.getElem?_eq_some_iff.1 h).1
    simpa [refNames] using this
  have := List.all_eq_true.1 hall r (by simpa using hr)
  rw [List.getD_eq_getElem?_getD, h] at this
  simpa using this
end
end Go.Proofs.YtihlbnflgjidaabDoor
