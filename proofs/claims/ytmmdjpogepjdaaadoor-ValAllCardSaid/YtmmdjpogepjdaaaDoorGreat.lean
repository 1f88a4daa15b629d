/- How many values there are within: some number. -/
import Derived.Test.YtmmdjpogepjdaaaDoorValH
namespace Go.Proofs.YtmmdjpogepjdaaaDoor
open Go.RowKit
set_option linter.unusedVariables false
set_option linter.unusedSimpArgs false

def ManyT (f : Nat) (w : World) (e : Ending) (w' : World) : Prop := ∃ n : Nat, e = .returned (.int .i64 (n : Int)) ∧ n ≤ 1000 + 1000 * f ∧ Below w.heap.size w w'
def BoolT (w : World) (e : Ending) (w' : World) : Prop := ∃ b, e = .returned (.bool b) ∧ Below w.heap.size w w'
def ManyOf (f : Nat) : Prop := ∀ (D : Nat) (v : VL) (lv : Value) (w : World), RowRd w D v.kids lv →
  Calls Tryd.prog 22 #[.agg #[.int .i64 v.kind, .int .i64 v.num, .string v.text, lv], .int .i64 (81 - (f : Int))] w (ManyT f w)
theorem ManyOf.call {f : Nat} (h : ManyOf f) (D : Nat) (v : VL) (lv : Value) (w : World) (hr : RowRd w D v.kids lv) :
  Calls Tryd.prog 22 #[.agg #[.int .i64 v.kind, .int .i64 v.num, .string v.text, lv], .int .i64 (81 - (f : Int))] w (ManyT f w) := h D v lv w hr
section
variable (w : World)
set_option maxRecDepth 20000
set_option maxHeartbeats 4000000 in
theorem many_out (f : Nat) (hf : f ≤ 81) (v : VL) (lao : Option Addr) (lcap : Nat) (hl : v.kids.length ≤ maxLen) (h : f = 0 ∨ 100 < v.kids.length ∨ 600 < v.text.size) :
    Calls Tryd.prog 22 #[.agg #[.int .i64 v.kind, .int .i64 v.num, .string v.text, .slice lao v.kids.length lcap], .int .i64 (81 - (f : Int))] w (ManyT f w) := by
  unfold maxLen at hl
  by_cases h0 : f = 0
  · subst h0
    have e : (81 : Int) - ((0 : Nat) : Int) = 81 := rfl
    rw [e]
    go_enter Tryd.func22, Tryd.ntmps22
    go_wp2_with fail
    go_ret
    exact ⟨1000, rfl, by omega, below_al (Below.refl _ _) _⟩
  · obtain ⟨dp, hdp⟩ : ∃ dp : Nat, dp = 81 - f := ⟨_, rfl⟩
    have e : (81 : Int) - (f : Int) = (dp : Int) := by omega
    rw [e]
    have h80 : ¬ (80 : Int) < (dp : Int) := by omega
    clear e
    by_cases h1 : 100 < v.kids.length
    · have g1 : (100 : Int) < (v.kids.length : Int) := by omega
      clear h
      go_enter Tryd.func22, Tryd.ntmps22
      go_wp2_with fail
      go_ret
      exact ⟨1000, rfl, by omega, below_al (Below.refl _ _) _⟩
    · have g1 : ¬ (100 : Int) < (v.kids.length : Int) := by omega
      have h2 : 600 < v.text.size := by omega
      have g2 : (600 : Int) < (v.text.size : Int) := by omega
      clear h
      go_enter Tryd.func22, Tryd.ntmps22
      go_wp2_with fail
      go_ret
      exact ⟨1000, rfl, by omega, below_al (Below.refl _ _) _⟩
set_option maxHeartbeats 4000000 in
theorem many_in (f D : Nat) (hf : f ≤ 80) (IH : ManyOf f) (v : VL) (lv : Value) (h : RowRd w D v.kids lv) (h1 : v.kids.length ≤ 100) (h2 : v.text.size ≤ 600) :
    Calls Tryd.prog 22 #[.agg #[.int .i64 v.kind, .int .i64 v.num, .string v.text, lv], .int .i64 (81 - ((f + 1 : Nat) : Int))] w (ManyT (f + 1) w) := by
  obtain ⟨dp, hdp⟩ : ∃ dp : Nat, dp + f = 80 := ⟨80 - f, by omega⟩
  have e : (81 : Int) - ((f + 1 : Nat) : Int) = (dp : Int) := by omega
  have e2 : (81 : Int) - (f : Int) = (dp : Int) + 1 := by omega
  rw [e]
  have I := Lib.hid (fun W (u : VL) (lu : Value) (hu : RowRd W (D - 1) u.kids lu) => by have := IH.call (D - 1) u lu W hu; rw [e2] at this; exact this)
  have h80 : ¬ (80 : Int) < (dp : Int) := by omega
  have g1 : ¬ (100 : Int) < (v.kids.length : Int) := by omega
  have g2 : ¬ (600 : Int) < (v.text.size : Int) := by omega
  have H := Lib.hid h
  obtain ⟨ao, cap, rfl⟩ := h.shape
  clear h IH e e2
  go_enter Tryd.func22, Tryd.ntmps22
  go_wp2_with fail
  have X := Lib.hid (VBlk.new w v (.slice ao v.kids.length cap))
  have B0 := Lib.hid (show Kept w _ from below_al (Below.refl w.heap.size w) (.cells #[.int .i64 v.kind, .int .i64 v.num, .string v.text, .slice ao v.kids.length cap] 24))
  generalize hw1 : w.alloc (.cells #[.int .i64 v.kind, .int .i64 v.num, .string v.text, .slice ao v.kids.length cap] 24) = w1 at *
  have G0 := Lib.hid hw1
  clear hw1
  go_loopg [5, 6] v.kids.length (fun m nv iv wr => ∃ (i n : Nat), iv = .int .i64 i ∧ nv = .int .i64 (n : Int) ∧ n ≤ 1000 + 1000 * (f + 1) ∧ v.kids.length - i ≤ m ∧ i ≤ v.kids.length ∧ Below w1.heap.size w1 wr)
  case atStart => exact ⟨0, 1, rfl, rfl, by omega, Nat.le_refl _, Nat.zero_le _, Below.refl _ _⟩
  case round =>
    obtain ⟨i, n, rfl, rfl, hn, hm, hi, hb⟩ := hrel
    have HM := Lib.hid hm
    have BR := Lib.hid hb
    obtain ⟨x0, x1, x2, x3⟩ := (X.out.below hb).cells
    have xl := (X.out.below hb).lt
    clear hm hb
    by_cases hil : i < v.kids.length
    · by_cases hn1 : n < 1000
      · have hn2 : (n : Int) < 1000 := by omega
        obtain ⟨u, hu⟩ : ∃ u, v.kids[i]? = some u := ⟨_, List.getElem?_eq_getElem hil⟩
        obtain ⟨ao2, cap2, e2, hat⟩ := (H.out.below (below_tr B0.out BR.out)).at
        simp only [Value.slice.injEq, true_and] at e2
        obtain ⟨rfl, rfl⟩ := e2
        obtain ⟨gg, oo, lu, rfl, -, c0, c1, c2, c3, hr⟩ := hat i u hu
        obtain ⟨lao, lcap, rfl⟩ := hr.shape
        have CU := Lib.hid (I.out wr u _ hr)
        clear hat hu hr
        go_wp2_with fail
        refine (CU.out).mono ?_
        rintro e w2 ⟨k, rfl, hk, hb2⟩
        have B2 := Lib.hid (below_tr BR.out hb2)
        clear hb2 c0 c1 c2 c3 x0 x1 x2 x3 xl
        go_wp2_with fail
        go_roundg (v.kids.length - (i + 1))
        case rel => exact ⟨i + 1, n + k, rfl, by congr 1, by omega, Nat.le_refl _, hil, B2.out⟩
        case measure => have := HM.out; omega
      · have hn2 : ¬ (n : Int) < 1000 := by omega
        have BZ := Lib.hid (below_tr B0.out BR.out)
        go_wp2_with fail
        go_ret
        exact ⟨n, rfl, hn, BZ.out⟩
    · have BZ := Lib.hid (below_tr B0.out BR.out)
      have hil2 : ¬ (i : Int) < (v.kids.length : Int) := by omega
      cases hnn : decide ((n : Int) < 1000)
      all_goals
        go_wp2_with fail
        go_ret
        exact ⟨n, rfl, hn, BZ.out⟩
end
theorem rmany : ∀ f, f ≤ 81 → ManyOf f := by
  intro f
  induction f with
  | zero =>
    intro _ D v lv w h
    have hl := h.len
    obtain ⟨lao, lcap, rfl⟩ := h.shape
    exact many_out w 0 (by omega) v lao lcap hl (.inl rfl)
  | succ f ih =>
    intro hf D v lv w h
    by_cases h1 : v.kids.length ≤ 100 ∧ v.text.size ≤ 600
    · exact many_in w f D (by omega) (ih (by omega)) v lv h h1.1 h1.2
    · have hl := h.len
      obtain ⟨lao, lcap, rfl⟩ := h.shape
      exact many_out w (f + 1) (by omega) v lao lcap hl (by omega)
theorem rgreat (w : World) (D : Nat) (v : VL) (lv : Value) (h : RowRd w D v.kids lv) :
    Calls Tryd.prog 4 #[.agg #[.int .i64 v.kind, .int .i64 v.num, .string v.text, lv], .int .i64 0] w (BoolT w) := by
  have MM := Lib.hid (fun W (hW : Below w.heap.size w W) => (rmany 81 (Nat.le_refl _)).call D v lv W (h.below hW))
  obtain ⟨lao, lcap, rfl⟩ := h.shape
  clear h
  go_enter Tryd.func4, Tryd.ntmps4
  go_wp2_with fail
  refine (MM.out _ (below_al (Below.refl _ _) _)).mono ?_
  rintro e w2 ⟨n, rfl, hn, hb2⟩
  have B2 := Lib.hid (below_tr (below_al (Below.refl w.heap.size w) (.cells #[.int .i64 v.kind, .int .i64 v.num, .string v.text, .slice lao v.kids.length lcap] 24)) hb2)
  clear hb2
  go_wp2_with fail
  go_ret
  exact ⟨_, rfl, B2.out⟩
end Go.Proofs.YtmmdjpogepjdaaaDoor
