/- The document's MayVal, of any value. -/
import Derived.Test.YtmmdjpogepjdaaaDoorValMa
import Derived.Test.YtmmdjpogepjdaaaDoorValMe
import Derived.Test.YtmmdjpogepjdaaaDoorValN
namespace Go.Proofs.YtmmdjpogepjdaaaDoor
open Go.RowKit
set_option linter.unusedVariables false
set_option linter.unusedSimpArgs false

/-- A list's own fields are as they should be, or a value's that is none. -/
def HeadP (v : VL) : Prop := (v.kind = 4 ∧ v.num = 0 ∧ v.text.toList.isEmpty = true ∧ v.kids.length ≤ 64) ∨ leafB v = true
def FieldsP : Nat → VL → Prop
  | 0, v => HeadP v ∧ v.kids = []
  | D + 1, v => HeadP v ∧ (v.kind = 4 → ∀ u ∈ v.kids, FieldsP D u)
theorem fold_max_mem (l : List Int) : ∀ (a x : Int), x ∈ l → x ≤ l.foldl max a := by
  induction l with
  | nil => intro a x h; cases h
  | cons y l ih =>
    intro a x h
    rcases List.mem_cons.1 h with rfl | h
    · exact Int.le_trans (by omega) (fold_max_ge l (max a x))
    · exact ih _ _ h
theorem fields_may : ∀ (d D : Nat) (v : VL), deepI d v ≤ d → FieldsP D v → mayB d v = true := by
  intro d
  induction d with
  | zero =>
    intro D v hd hf
    have hh : HeadP v := by cases D with
      | zero => exact hf.1
      | succ D => exact hf.1
    rcases hh with ⟨h4, -⟩ | h
    · unfold deepI at hd; rw [if_pos h4] at hd; omega
    · exact h
  | succ d ih =>
    intro D v hd hf
    have hh : HeadP v := by cases D with
      | zero => exact hf.1
      | succ D => exact hf.1
    rcases hh with ⟨h4, h1, h2, h3⟩ | h
    · unfold mayB
      rw [if_pos h4]
      have hk : v.kids.all (mayB d) = true := by
        rw [List.all_eq_true]
        intro u hu
        cases D with
        | zero => have h0 : v.kids = [] := hf.2; rw [h0] at hu; cases hu
        | succ D =>
          refine ih D u ?_ (hf.2 h4 u hu)
          unfold deepI at hd
          rw [if_pos h4] at hd
          have : deepI d u ≤ (v.kids.map (deepI d)).foldl max 0 := fold_max_mem _ _ _ (List.mem_map_of_mem hu)
          omega
      rw [hk, h1, h2, decide_eq_true h3]; rfl
    · have h4 : ¬ v.kind = 4 := fun e => by rw [leaf_list e] at h; cases h
      unfold mayB; rw [if_neg h4]; exact h
section
variable (w : World)
set_option maxRecDepth 20000
set_option maxHeartbeats 4000000 in
theorem fields_leafG (v : VL) (lao : Option Addr) (lcap : Nat) (hk : ¬ v.kind = 4) :
    Calls Tryd.prog 25 #[.agg #[.int .i64 v.kind, .int .i64 v.num, .string v.text, .slice lao v.kids.length lcap]] w (Made (.bool (leafB v)) w) := by
  have g4 : (v.kind == 4) = false := by simpa using hk
  by_cases h1 : v.kind = 1
  · have g1 : (v.kind == 1) = true := by simpa using h1
    rw [show leafB v = (v.text.toList.isEmpty && ((v.kids.length : Int) == 0)) by rw [← len_zero]; exact if_pos h1]
    clear h1 hk
    cases e1 : v.text.toList.isEmpty <;> cases e2 : ((v.kids.length : Int) == 0)
    all_goals
      go_enter Tryd.func25, Tryd.ntmps25
      go_wp2_with fail
      go_ret
      exact ⟨rfl, below_al (Below.refl _ _) _⟩
  · have g1 : (v.kind == 1) = false := by simpa using h1
    by_cases h2 : v.kind = 2
    · have g2 : (v.kind == 2) = true := by simpa using h2
      rw [show leafB v = (v.num == 0 && decide (v.text.size ≤ 400) && ((v.kids.length : Int) == 0)) by rw [← len_zero]; unfold leafB; rw [if_neg h1, if_pos h2]]
      clear h1 h2 hk
      cases e1 : (v.num == 0)
      · go_enter Tryd.func25, Tryd.ntmps25
        go_wp2_with fail
        go_ret
        exact ⟨rfl, below_al (Below.refl _ _) _⟩
      · by_cases h3 : v.text.size ≤ 400
        · rw [show decide (v.text.size ≤ 400) = true from decide_eq_true h3]
          have h5 : (v.text.size : Int) ≤ 400 := by omega
          cases e2 : ((v.kids.length : Int) == 0)
          all_goals
            go_enter Tryd.func25, Tryd.ntmps25
            go_wp2_with fail
            go_ret
            exact ⟨rfl, below_al (Below.refl _ _) _⟩
        · rw [show decide (v.text.size ≤ 400) = false from decide_eq_false h3]
          have h3' : ¬ (v.text.size : Int) ≤ 400 := by omega
          clear h3
          cases e2 : ((v.kids.length : Int) == 0)
          all_goals
            go_enter Tryd.func25, Tryd.ntmps25
            go_wp2_with fail
            go_ret
            exact ⟨rfl, below_al (Below.refl _ _) _⟩
    · have g2 : (v.kind == 2) = false := by simpa using h2
      by_cases h3 : v.kind = 3
      · have g3 : (v.kind == 3) = true := by simpa using h3
        rw [show leafB v = ((v.num == 0 || v.num == 1) && v.text.toList.isEmpty && ((v.kids.length : Int) == 0)) by rw [← len_zero]; unfold leafB; rw [if_neg h1, if_neg h2, if_pos h3]]
        clear h1 h2 h3 hk
        cases e1 : (v.num == 0) <;> cases e2 : (v.num == 1) <;> cases e3 : v.text.toList.isEmpty <;> cases e4 : ((v.kids.length : Int) == 0)
        all_goals
          go_enter Tryd.func25, Tryd.ntmps25
          go_wp2_with fail
          go_ret
          exact ⟨rfl, below_al (Below.refl _ _) _⟩
      · have g3 : (v.kind == 3) = false := by simpa using h3
        rw [show leafB v = false by unfold leafB; rw [if_neg h1, if_neg h2, if_neg h3]]
        clear h1 h2 h3 hk
        go_enter Tryd.func25, Tryd.ntmps25
        go_wp2_with fail
        go_ret
        exact ⟨rfl, below_al (Below.refl _ _) _⟩
/-- What fields tells of any value. -/
def FieldsT (D : Nat) (v : VL) (w : World) (e : Ending) (w' : World) : Prop := ∃ b, e = .returned (.bool b) ∧ (b = true → FieldsP D v) ∧ Below w.heap.size w w'
def MayT (v : VL) (w : World) (e : Ending) (w' : World) : Prop := ∃ b, e = .returned (.bool b) ∧ (b = true → mayB 64 v = true) ∧ Below w.heap.size w w'
def FieldsAny (D : Nat) : Prop := ∀ (v : VL) (lv : Value) (w : World), RowRd w D v.kids lv →
  Calls Tryd.prog 25 #[.agg #[.int .i64 v.kind, .int .i64 v.num, .string v.text, lv]] w (FieldsT D v w)
theorem FieldsAny.call {D : Nat} (h : FieldsAny D) (v : VL) (lv : Value) (w : World) (hr : RowRd w D v.kids lv) :
  Calls Tryd.prog 25 #[.agg #[.int .i64 v.kind, .int .i64 v.num, .string v.text, lv]] w (FieldsT D v w) := h v lv w hr
set_option maxHeartbeats 4000000 in
theorem fields_listG (D : Nat) (IH : 0 < D → FieldsAny (D - 1)) (v : VL) (lv : Value) (h : RowRd w D v.kids lv) (hk : v.kind = 4) :
    Calls Tryd.prog 25 #[.agg #[.int .i64 v.kind, .int .i64 v.num, .string v.text, lv]] w (FieldsT D v w) := by
  have g1 : (v.kind == 1) = false := by simp [hk]
  have g2 : (v.kind == 2) = false := by simp [hk]
  have g3 : (v.kind == 3) = false := by simp [hk]
  have g4 : (v.kind == 4) = true := by simp [hk]
  have HK := Lib.hid hk
  have H := Lib.hid h
  have hl := h.len
  unfold maxLen at hl
  obtain ⟨ao, cap, rfl⟩ := h.shape
  have I := Lib.hid (fun (hD : 0 < D) W (u : VL) (lu : Value) (hu : RowRd W (D - 1) u.kids lu) => (IH hD).call u lu W hu)
  clear h hk IH
  go_enter Tryd.func25, Tryd.ntmps25
  go_wp2_with fail
  have X := Lib.hid (VBlk.new w v (.slice ao v.kids.length cap))
  have B0 := Lib.hid (show Kept w _ from below_al (Below.refl w.heap.size w) (.cells #[.int .i64 v.kind, .int .i64 v.num, .string v.text, .slice ao v.kids.length cap] 24))
  generalize hw1 : w.alloc (.cells #[.int .i64 v.kind, .int .i64 v.num, .string v.text, .slice ao v.kids.length cap] 24) = w1 at *
  have G0 := Lib.hid hw1
  clear hw1
  go_loopg [3] v.kids.length (fun m iv wr => ∃ (i : Nat), iv = .int .i64 i ∧ v.kids.length - i ≤ m ∧ i ≤ v.kids.length ∧ Below w1.heap.size w1 wr ∧ Hid (∀ u ∈ v.kids.take i, FieldsP (D - 1) u))
  case atStart => exact ⟨0, rfl, Nat.le_refl _, Nat.zero_le _, Below.refl _ _, Lib.hid (fun u hu => by simp at hu)⟩
  case round =>
    obtain ⟨i, rfl, hm, hi, hb, AL⟩ := hrel
    have HM := Lib.hid hm
    have BR := Lib.hid hb
    obtain ⟨x0, x1, x2, x3⟩ := (X.out.below hb).cells
    have xl := (X.out.below hb).lt
    clear hm hb
    by_cases hil : i < v.kids.length
    · obtain ⟨u, hu⟩ : ∃ u, v.kids[i]? = some u := ⟨_, List.getElem?_eq_getElem hil⟩
      have hD : 0 < D := by
        cases D with
        | zero => obtain ⟨e, -⟩ := H.out; rw [e] at hil; simp at hil
        | succ D => omega
      obtain ⟨ao2, cap2, e2, hat⟩ := (H.out.below (below_tr B0.out BR.out)).at
      simp only [Value.slice.injEq, true_and] at e2
      obtain ⟨rfl, rfl⟩ := e2
      obtain ⟨gg, oo, lu, rfl, -, c0, c1, c2, c3, hr⟩ := hat i u hu
      obtain ⟨lao, lcap, rfl⟩ := hr.shape
      have CU := Lib.hid (I.out hD wr u _ hr)
      have TK := Lib.hid (show v.kids.take (i + 1) = v.kids.take i ++ [u] by rw [List.take_add_one, hu]; rfl)
      clear hat hu hr
      go_wp2_with fail
      refine (CU.out).mono ?_
      rintro e w2 ⟨b, rfl, hbp, hb2⟩
      have B2 := Lib.hid (below_tr BR.out hb2)
      have HP := Lib.hid hbp
      clear hb2 hbp c0 c1 c2 c3 x0 x1 x2 x3 xl
      cases b
      · go_wp2_with fail
        go_ret
        exact ⟨false, rfl, fun e => (by cases e), below_tr B0.out B2.out⟩
      · go_wp2_with fail
        go_roundg (v.kids.length - (i + 1))
        case rel => exact ⟨i + 1, rfl, Nat.le_refl _, hil, B2.out, Lib.hid (fun x hx => by
          rw [TK.out] at hx
          rcases List.mem_append.1 hx with hx | hx
          · exact AL.out x hx
          · simp only [List.mem_singleton] at hx; subst hx; exact HP.out (by trivial))⟩
        case measure => have := HM.out; omega
    · have e : v.kids.take i = v.kids := List.take_of_length_le (by omega)
      rw [e] at AL
      have BZ := Lib.hid (below_tr B0.out BR.out)
      have FIN := Lib.hid (fun (h1 : (v.num == 0) = true) (h2 : v.text.toList.isEmpty = true) (h3 : v.kids.length ≤ 64) => show FieldsP D v from by
        have hh : HeadP v := .inl ⟨HK.out, by simpa using h1, h2, h3⟩
        cases D with
        | zero => exact ⟨hh, by obtain ⟨e, -⟩ := H.out; exact e⟩
        | succ D => exact ⟨hh, fun _ u hu => AL.out u hu⟩)
      clear e
      cases e1 : (v.num == 0) <;> cases e2 : v.text.toList.isEmpty <;> by_cases h3 : v.kids.length ≤ 64
      all_goals
        first | (have h3i : (v.kids.length : Int) ≤ 64 := by omega) | (have h3i : ¬ (v.kids.length : Int) ≤ 64 := by omega)
        go_wp2_with fail
        go_ret
        first
        | exact ⟨true, rfl, fun _ => FIN.out e1 e2 h3, BZ.out⟩
        | exact ⟨false, rfl, fun e => (by cases e), BZ.out⟩
end
theorem rfieldsG : ∀ D, FieldsAny D := by
  intro D
  induction D with
  | zero =>
    intro v lv w h
    by_cases hk : v.kind = 4
    · exact fields_listG w 0 (fun h => absurd h (Nat.lt_irrefl _)) v lv h hk
    · have h0 := h.1
      obtain ⟨lao, lcap, rfl⟩ := h.shape
      exact (fields_leafG w v lao lcap hk).mono fun e w' ⟨h1, h2⟩ => ⟨_, h1, fun hb => ⟨.inr hb, h0⟩, h2⟩
  | succ D ih =>
    intro v lv w h
    by_cases hk : v.kind = 4
    · exact fields_listG w (D + 1) (fun _ => ih) v lv h hk
    · obtain ⟨lao, lcap, rfl⟩ := h.shape
      exact (fields_leafG w v lao lcap hk).mono fun e w' ⟨h1, h2⟩ => ⟨_, h1, fun hb => ⟨.inr hb, fun h4 => absurd h4 hk⟩, h2⟩
theorem rMayValG (w : World) (D : Nat) (v : VL) (lv : Value) (h : RowRd w D v.kids lv) :
    Calls Tryd.prog 7 #[.agg #[.int .i64 v.kind, .int .i64 v.num, .string v.text, lv]] w (MayT v w) := by
  have DD := Lib.hid (fun W (hW : Below w.heap.size w W) => (rdeep 64 (Nat.le_refl _)).call D v lv W (h.below hW))
  have FF := Lib.hid (fun W (hW : Below w.heap.size w W) => (rfieldsG D).call v lv W (h.below hW))
  have MM := Lib.hid (fun (hd : deepI 64 v ≤ 64) (hf : FieldsP D v) => fields_may 64 D v hd hf)
  obtain ⟨lao, lcap, rfl⟩ := h.shape
  clear h
  have hbd := deepI_bound 64 v
  generalize deepI 64 v = dd at *
  by_cases hd : dd ≤ 64
  · go_enter Tryd.func7, Tryd.ntmps7
    go_wp2_with fail
    refine (DD.out _ (below_al (Below.refl _ _) _)).mono ?_
    rintro e w2 ⟨rfl, hb2⟩
    have B2 := Lib.hid (below_tr (below_al (Below.refl w.heap.size w) (.cells #[.int .i64 v.kind, .int .i64 v.num, .string v.text, .slice lao v.kids.length lcap] 24)) hb2)
    obtain ⟨x0, x1, x2, x3⟩ := ((VBlk.new w v (.slice lao v.kids.length lcap)).below hb2).cells
    clear hb2
    go_wp2_with fail
    refine (FF.out _ B2.out).mono ?_
    rintro e w3 ⟨b, rfl, hbp, hb3⟩
    have B3 := Lib.hid (below_tr B2.out hb3)
    have HP := Lib.hid hbp
    clear hb3 hbp
    cases b
    all_goals
      go_wp2_with fail
      go_ret
    · exact ⟨false, rfl, fun e => (by cases e), B3.out⟩
    · exact ⟨true, rfl, fun e => MM.out hd (HP.out (by trivial)), B3.out⟩
  · go_enter Tryd.func7, Tryd.ntmps7
    go_wp2_with fail
    refine (DD.out _ (below_al (Below.refl _ _) _)).mono ?_
    rintro e w2 ⟨rfl, hb2⟩
    have B2 := Lib.hid (below_tr (below_al (Below.refl w.heap.size w) (.cells #[.int .i64 v.kind, .int .i64 v.num, .string v.text, .slice lao v.kids.length lcap] 24)) hb2)
    clear hb2
    go_wp2_with fail
    go_ret
    exact ⟨false, rfl, fun e => (by cases e), B2.out⟩
end Go.Proofs.YtmmdjpogepjdaaaDoor
