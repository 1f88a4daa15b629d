/- The document's MayVal, of values that may be. -/
import Derived.Test.YtmmdjpogepjdaaaDoorValMa
import Derived.Test.YtmmdjpogepjdaaaDoorValMe
namespace Go.Proofs.YtmmdjpogepjdaaaDoor
open Go.RowKit
set_option linter.unusedVariables false
set_option linter.unusedSimpArgs false

theorem len_zero' (l : List VL) : ((l.length : Int) == 0) = (l.length == 0) := by
  cases l with
  | nil => rfl
  | cons a t => simp; omega
def FieldsOf (d : Nat) : Prop := ∀ (D : Nat) (v : VL) (lv : Value) (w : World), RowRd w D v.kids lv → mayB d v = true →
  Calls Tryd.prog 25 #[.agg #[.int .i64 v.kind, .int .i64 v.num, .string v.text, lv]] w (Made (.bool true) w)
theorem FieldsOf.call {d : Nat} (h : FieldsOf d) (D : Nat) (v : VL) (lv : Value) (w : World) (hr : RowRd w D v.kids lv) (hm : mayB d v = true) :
  Calls Tryd.prog 25 #[.agg #[.int .i64 v.kind, .int .i64 v.num, .string v.text, lv]] w (Made (.bool true) w) := h D v lv w hr hm
section
variable (w : World)
set_option maxRecDepth 20000
set_option maxHeartbeats 4000000 in
theorem fields_leaf (v : VL) (lao : Option Addr) (lcap : Nat) (h : leafB v = true) :
    Calls Tryd.prog 25 #[.agg #[.int .i64 v.kind, .int .i64 v.num, .string v.text, .slice lao v.kids.length lcap]] w (Made (.bool true) w) := by
  unfold leafB at h
  split at h
  · rename_i hk
    have g1 : (v.kind == 1) = true := by simpa using hk
    rw [Bool.and_eq_true] at h
    obtain ⟨h1, h2⟩ := h
    rw [← len_zero'] at h2
    clear hk
    go_enter Tryd.func25, Tryd.ntmps25
    go_wp2_with fail
    go_ret
    exact ⟨rfl, below_al (Below.refl _ _) _⟩
  · rename_i hk1
    have g1 : (v.kind == 1) = false := by simpa using hk1
    split at h
    · rename_i hk
      have g2 : (v.kind == 2) = true := by simpa using hk
      simp only [Bool.and_eq_true, decide_eq_true_eq] at h
      obtain ⟨⟨h1, h2⟩, h3⟩ := h
      rw [← len_zero'] at h3
      have h4 : (v.text.size : Int) ≤ 400 := by omega
      clear hk hk1
      go_enter Tryd.func25, Tryd.ntmps25
      go_wp2_with fail
      go_ret
      exact ⟨rfl, below_al (Below.refl _ _) _⟩
    · rename_i hk2
      have g2 : (v.kind == 2) = false := by simpa using hk2
      split at h
      · rename_i hk
        have g3 : (v.kind == 3) = true := by simpa using hk
        simp only [Bool.and_eq_true] at h
        obtain ⟨⟨h1, h2⟩, h3⟩ := h
        rw [← len_zero'] at h3
        clear hk hk1 hk2
        cases e1 : (v.num == 0) <;> cases e2 : (v.num == 1)
        · rw [e1, e2] at h1; cases h1
        all_goals
          clear h1
          go_enter Tryd.func25, Tryd.ntmps25
          go_wp2_with fail
          go_ret
          exact ⟨rfl, below_al (Below.refl _ _) _⟩
      · cases h
set_option maxHeartbeats 4000000 in
theorem fields_list (d D : Nat) (IH : FieldsOf d) (v : VL) (lv : Value) (h : RowRd w D v.kids lv) (hk : v.kind = 4) (hm : mayB (d + 1) v = true) :
    Calls Tryd.prog 25 #[.agg #[.int .i64 v.kind, .int .i64 v.num, .string v.text, lv]] w (Made (.bool true) w) := by
  have g1 : (v.kind == 1) = false := by simp [hk]
  have g2 : (v.kind == 2) = false := by simp [hk]
  have g3 : (v.kind == 3) = false := by simp [hk]
  have g4 : (v.kind == 4) = true := by simp [hk]
  unfold mayB at hm
  rw [if_pos hk] at hm
  simp only [Bool.and_eq_true, decide_eq_true_eq, List.all_eq_true] at hm
  obtain ⟨⟨⟨h1, h2⟩, h3⟩, h4⟩ := hm
  have h5 : (v.kids.length : Int) ≤ 64 := by omega
  have HK := Lib.hid h4
  have H := Lib.hid h
  obtain ⟨ao, cap, rfl⟩ := h.shape
  have I := Lib.hid (fun W (u : VL) (lu : Value) (hu : RowRd W (D - 1) u.kids lu) (hm : mayB d u = true) => IH.call (D - 1) u lu W hu hm)
  clear h hk h4 IH
  go_enter Tryd.func25, Tryd.ntmps25
  go_wp2_with fail
  have X := Lib.hid (VBlk.new w v (.slice ao v.kids.length cap))
  have B0 := Lib.hid (show Kept w _ from below_al (Below.refl w.heap.size w) (.cells #[.int .i64 v.kind, .int .i64 v.num, .string v.text, .slice ao v.kids.length cap] 24))
  generalize hw1 : w.alloc (.cells #[.int .i64 v.kind, .int .i64 v.num, .string v.text, .slice ao v.kids.length cap] 24) = w1 at *
  have G0 := Lib.hid hw1
  clear hw1
  go_loopg [3] v.kids.length (fun m iv wr => ∃ (i : Nat), iv = .int .i64 i ∧ v.kids.length - i ≤ m ∧ i ≤ v.kids.length ∧ Below w1.heap.size w1 wr)
  case atStart => exact ⟨0, rfl, Nat.le_refl _, Nat.zero_le _, Below.refl _ _⟩
  case round =>
    obtain ⟨i, rfl, hm, hi, hb⟩ := hrel
    have HM := Lib.hid hm
    have BR := Lib.hid hb
    obtain ⟨x0, x1, x2, x3⟩ := (X.out.below hb).cells
    have xl := (X.out.below hb).lt
    clear hm hb
    by_cases hil : i < v.kids.length
    · obtain ⟨u, hu⟩ : ∃ u, v.kids[i]? = some u := ⟨_, List.getElem?_eq_getElem hil⟩
      obtain ⟨ao2, cap2, e2, hat⟩ := (H.out.below (below_tr B0.out BR.out)).at
      simp only [Value.slice.injEq, true_and] at e2
      obtain ⟨rfl, rfl⟩ := e2
      obtain ⟨gg, oo, lu, rfl, -, c0, c1, c2, c3, hr⟩ := hat i u hu
      obtain ⟨lao, lcap, rfl⟩ := hr.shape
      have CU := Lib.hid (I.out wr u _ hr (HK.out u (List.mem_of_getElem? hu)))
      clear hat hu hr
      go_wp2_with fail
      refine (CU.out).mono ?_
      rintro e w2 ⟨rfl, hb2⟩
      have B2 := Lib.hid (below_tr BR.out hb2)
      clear hb2 c0 c1 c2 c3 x0 x1 x2 x3 xl
      go_wp2_with fail
      go_roundg (v.kids.length - (i + 1))
      case rel => exact ⟨i + 1, rfl, Nat.le_refl _, hil, B2.out⟩
      case measure => have := HM.out; omega
    · have BZ := Lib.hid (below_tr B0.out BR.out)
      go_wp2_with fail
      go_ret
      exact ⟨rfl, BZ.out⟩
end
theorem rfields : ∀ d, FieldsOf d := by
  intro d
  induction d with
  | zero =>
    intro D v lv w h hm
    obtain ⟨lao, lcap, rfl⟩ := h.shape
    exact fields_leaf w v lao lcap hm
  | succ d ih =>
    intro D v lv w h hm
    by_cases hk : v.kind = 4
    · exact fields_list w d D ih v lv h hk hm
    · obtain ⟨lao, lcap, rfl⟩ := h.shape
      unfold mayB at hm
      rw [if_neg hk] at hm
      exact fields_leaf w v lao lcap hm
theorem rMayVal (w : World) (D : Nat) (v : VL) (lv : Value) (h : RowRd w D v.kids lv) (hm : mayB 64 v = true) :
    Calls Tryd.prog 7 #[.agg #[.int .i64 v.kind, .int .i64 v.num, .string v.text, lv]] w (Made (.bool true) w) := by
  have DD := Lib.hid (fun W (hW : Below w.heap.size w W) => (rdeep 64 (Nat.le_refl _)).call D v lv W (h.below hW))
  have FF := Lib.hid (fun W (hW : Below w.heap.size w W) => (rfields 64).call D v lv W (h.below hW) hm)
  have hd := deep_may 64 v hm
  obtain ⟨lao, lcap, rfl⟩ := h.shape
  clear h hm
  generalize deepI 64 v = dd at *
  go_enter Tryd.func7, Tryd.ntmps7
  go_wp2_with fail
  refine (DD.out _ (below_al (Below.refl _ _) _)).mono ?_
  rintro e w2 ⟨rfl, hb2⟩
  have B2 := Lib.hid (below_tr (below_al (Below.refl w.heap.size w) (.cells #[.int .i64 v.kind, .int .i64 v.num, .string v.text, .slice lao v.kids.length lcap] 24)) hb2)
  obtain ⟨x0, x1, x2, x3⟩ := ((VBlk.new w v (.slice lao v.kids.length lcap)).below hb2).cells
  clear hb2
  go_wp2_with fail
  refine (FF.out _ B2.out).mono ?_
  rintro e w3 ⟨rfl, hb3⟩
  have B3 := Lib.hid (below_tr B2.out hb3)
  clear hb3
  go_wp2_with fail
  go_ret
  exact ⟨rfl, B3.out⟩
end Go.Proofs.YtmmdjpogepjdaaaDoor
