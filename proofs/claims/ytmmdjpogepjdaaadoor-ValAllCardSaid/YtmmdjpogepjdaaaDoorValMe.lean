/- The document's deep, Index, List; what is the document's; package val: Index of other kinds. -/
import Derived.Test.YtmmdjpogepjdaaaDoorValMa
import Derived.Test.YtmmdjpogepjdaaaDoorOwnW
import Derived.Deep.RegionLaw
namespace Go.Proofs.YtmmdjpogepjdaaaDoor
open Go.RowKit
set_option linter.unusedVariables false
set_option linter.unusedSimpArgs false

def DeepOf (d : Nat) : Prop := ∀ (D : Nat) (v : VL) (lv : Value) (w : World), RowRd w D v.kids lv →
  Calls Tryd.prog 24 #[.agg #[.int .i64 v.kind, .int .i64 v.num, .string v.text, lv], .int .i64 (d : Int)] w (Made (.int .i64 (deepI d v)) w)
theorem DeepOf.call {d : Nat} (h : DeepOf d) (D : Nat) (v : VL) (lv : Value) (w : World) (hr : RowRd w D v.kids lv) :
  Calls Tryd.prog 24 #[.agg #[.int .i64 v.kind, .int .i64 v.num, .string v.text, lv], .int .i64 (d : Int)] w (Made (.int .i64 (deepI d v)) w) := h D v lv w hr
section
variable (w : World)
theorem deep_leaf (d : Nat) (v : VL) (lao : Option Addr) (n lcap : Nat) (hk : ¬ v.kind = 4) (e : Int) :
    Calls Tryd.prog 24 #[.agg #[.int .i64 v.kind, .int .i64 v.num, .string v.text, .slice lao n lcap], .int .i64 e] w (Made (.int .i64 (deepI d v)) w) := by
  have E : deepI d v = 0 := by cases d <;> (unfold deepI; rw [if_neg hk])
  rw [E]
  have g : (v.kind != 4) = true := by simpa using hk
  clear hk E
  go_enter Tryd.func24, Tryd.ntmps24
  go_wp2_with fail
  go_ret
  exact ⟨rfl, below_al (Below.refl _ _) _⟩
theorem deep_low (v : VL) (lao : Option Addr) (n lcap : Nat) (hk : v.kind = 4) :
    Calls Tryd.prog 24 #[.agg #[.int .i64 v.kind, .int .i64 v.num, .string v.text, .slice lao n lcap], .int .i64 0] w (Made (.int .i64 (deepI 0 v)) w) := by
  have E : deepI 0 v = 1000 := by unfold deepI; rw [if_pos hk]
  rw [E]
  have g : (v.kind != 4) = false := by simpa using hk
  clear hk E
  go_enter Tryd.func24, Tryd.ntmps24
  go_wp2_with fail
  go_ret
  exact ⟨rfl, below_al (Below.refl _ _) _⟩
set_option maxHeartbeats 4000000 in
set_option maxRecDepth 20000 in
theorem deep_step (d D : Nat) (hd : d ≤ 64) (IH : DeepOf d) (v : VL) (lv : Value) (h : RowRd w D v.kids lv) (hk : v.kind = 4) :
    Calls Tryd.prog 24 #[.agg #[.int .i64 v.kind, .int .i64 v.num, .string v.text, lv], .int .i64 ((d + 1 : Nat) : Int)] w (Made (.int .i64 (deepI (d + 1) v)) w) := by
  have E : deepI (d + 1) v = deepR d v.kids + 1 := by show (if v.kind = 4 then _ else _) = _; rw [if_pos hk]; rfl
  rw [E]
  have EB := Lib.hid (fun l => deepR_bound d l)
  have g : (v.kind != 4) = false := by simpa using hk
  have H := Lib.hid h
  have hl := h.len
  unfold maxLen at hl
  obtain ⟨ao, cap, rfl⟩ := h.shape
  have hcast : ((d + 1 : Nat) : Int) = (d : Int) + 1 := by omega
  rw [hcast]
  have hd0 : ¬ ((d : Int) + 1 ≤ 0) := by omega
  have I := Lib.hid (fun W (u : VL) (lu : Value) (hu : RowRd W (D - 1) u.kids lu) => IH.call (D - 1) u lu W hu)
  clear h hk hcast E
  go_enter Tryd.func24, Tryd.ntmps24
  go_wp2_with fail
  have X := Lib.hid (VBlk.new w v (.slice ao v.kids.length cap))
  have B0 := Lib.hid (show Kept w _ from below_al (Below.refl w.heap.size w) (.cells #[.int .i64 v.kind, .int .i64 v.num, .string v.text, .slice ao v.kids.length cap] 24))
  generalize hw1 : w.alloc (.cells #[.int .i64 v.kind, .int .i64 v.num, .string v.text, .slice ao v.kids.length cap] 24) = w1 at *
  have G0 := Lib.hid hw1
  clear hw1
  go_loopg [5, 6] v.kids.length (fun m nv iv wr => ∃ (i : Nat), iv = .int .i64 i ∧ nv = .int .i64 (deepR d (v.kids.take i)) ∧ v.kids.length - i ≤ m ∧ i ≤ v.kids.length ∧ Below w1.heap.size w1 wr)
  case atStart => exact ⟨0, rfl, rfl, Nat.le_refl _, Nat.zero_le _, Below.refl _ _⟩
  case round =>
    obtain ⟨i, rfl, rfl, hm, hi, hb⟩ := hrel
    have HM := Lib.hid hm
    have BR := Lib.hid hb
    obtain ⟨x0, x1, x2, x3⟩ := (X.out.below hb).cells
    have xl := (X.out.below hb).lt
    have hbd := EB.out (v.kids.take i)
    clear hm hb
    by_cases hil : i < v.kids.length
    · obtain ⟨u, hu⟩ : ∃ u, v.kids[i]? = some u := ⟨_, List.getElem?_eq_getElem hil⟩
      obtain ⟨ao2, cap2, e2, hat⟩ := (H.out.below (below_tr B0.out BR.out)).at
      simp only [Value.slice.injEq, true_and] at e2
      obtain ⟨rfl, rfl⟩ := e2
      obtain ⟨g2, o2, lu, rfl, -, c0, c1, c2, c3, hr⟩ := hat i u hu
      obtain ⟨lao, lcap, rfl⟩ := hr.shape
      have RU := Lib.hid hr
      have TK := Lib.hid (show deepR d (v.kids.take (i + 1)) = max (deepR d (v.kids.take i)) (deepI d u) by rw [List.take_add_one, hu]; exact deepR_snoc d _ u)
      have CU := Lib.hid (fun W (hw : Below wr.heap.size wr W) => I.out W u _ (RU.out.below hw))
      clear hat hu hr
      have ub := deepI_bound d u
      go_wp2_with fail
      refine (CU.out _ (Below.refl _ _)).mono ?_
      rintro e w2 ⟨rfl, hb2⟩
      have B2 := Lib.hid (below_tr BR.out hb2)
      clear hb2 c0 c1 c2 c3 x0 x1 x2 x3 xl
      generalize hA : deepR d (v.kids.take i) = A at *
      generalize hU : deepI d u = U at *
      go_wp2_with fail
      all_goals go_roundg (v.kids.length - (i + 1))
      all_goals try (case rel => exact ⟨i + 1, rfl, by rw [TK.out]; congr 1; omega, Nat.le_refl _, hil, B2.out⟩)
      all_goals (case measure => have := HM.out; omega)
    · have ei : v.kids.take i = v.kids := List.take_of_length_le (by omega)
      rw [ei] at hbd ⊢
      have BZ := Lib.hid (below_tr B0.out BR.out)
      go_wp2_with fail
      go_ret
      exact ⟨rfl, BZ.out⟩
end
theorem rdeep : ∀ d, d ≤ 64 → DeepOf d := by
  intro d
  induction d with
  | zero =>
    intro _ D v lv w h
    obtain ⟨lao, lcap, rfl⟩ := h.shape
    by_cases hk : v.kind = 4
    · exact deep_low w v lao _ lcap hk
    · exact deep_leaf w 0 v lao _ lcap hk _
  | succ d ih =>
    intro hd D v lv w h
    by_cases hk : v.kind = 4
    · exact deep_step w d D (by omega) (ih (by omega)) v lv h hk
    · obtain ⟨lao, lcap, rfl⟩ := h.shape
      exact deep_leaf w (d + 1) v lao _ lcap hk _
end Go.Proofs.YtmmdjpogepjdaaaDoor
