/- Package val: what may be. -/
import Derived.Test.YtndeihmclecmcaaGreatDoorValE
namespace Go.Proofs.YtndeihmclecmcaaGreatDoor
open Go.RowKit
set_option linter.unusedVariables false
set_option linter.unusedSimpArgs false

/-- A value that is no list: may it be? -/
def leafB (v : VL) : Bool :=
  if v.kind = 1 then v.text.toList.isEmpty && v.kids.length == 0
  else if v.kind = 2 then v.num == 0 && decide (v.text.size ≤ 400) && v.kids.length == 0
  else if v.kind = 3 then (v.num == 0 || v.num == 1) && v.text.toList.isEmpty && v.kids.length == 0
  else false
def mayB : Nat → VL → Bool
  | 0, v => leafB v
  | d + 1, v => if v.kind = 4 then v.num == 0 && v.text.toList.isEmpty && decide (v.kids.length ≤ 64) && v.kids.all (mayB d) else leafB v
theorem leaf_list {v : VL} (h : v.kind = 4) : leafB v = false := by
  unfold leafB; rw [if_neg (by omega), if_neg (by omega), if_neg (by omega)]
def MayOf (f : FuncId) (d D : Nat) (S : VL → Bool) : Prop := ∀ (v : VL) (lv : Value) (w : World), RowRd w D v.kids lv →
  Calls Tryz.prog f #[.agg #[.int .i64 v.kind, .int .i64 v.num, .string v.text, lv], .int .i64 (d : Int)] w (Made (.bool (S v)) w)
theorem MayOf.call {f : FuncId} {d D : Nat} {S : VL → Bool} (h : MayOf f d D S) (v : VL) (lv : Value) (w : World) (hr : RowRd w D v.kids lv) :
    Calls Tryz.prog f #[.agg #[.int .i64 v.kind, .int .i64 v.num, .string v.text, lv], .int .i64 (d : Int)] w (Made (.bool (S v)) w) := h v lv w hr
section
variable (w : World)
set_option maxHeartbeats 1000000 in
set_option maxRecDepth 20000 in
theorem vallMay (d D : Nat) (S : VL → Bool) (hS : 0 < D → MayOf 31 d (D - 1) S) (l : List VL) (lv : Value) (h : RowRd w D l lv) : Calls Tryz.prog 47 #[lv, .int .i64 (d : Int)] w (Made (.bool (l.all S)) w) := by
  have H := Lib.hid h
  have HS := Lib.hid hS
  have hl := h.len
  unfold maxLen at hl
  obtain ⟨ao, cap, rfl⟩ := h.shape
  clear h hS
  go_enter Tryz.func47, Tryz.ntmps47
  go_wp2_with fail
  go_loopg [9] l.length (fun m iv wr => ∃ i : Nat, iv = .int .i64 i ∧ l.length - i ≤ m ∧ i ≤ l.length ∧ Below w.heap.size w wr ∧ Hid ((l.take i).all S = true))
  case atStart => exact ⟨0, rfl, Nat.le_refl _, Nat.zero_le _, Below.refl _ _, Lib.hid rfl⟩
  case round =>
    obtain ⟨i, rfl, hm, hi, hb, HI⟩ := hrel
    have HM := Lib.hid hm
    have BR := Lib.hid hb
    clear hm hb
    by_cases hil : i < l.length
    · obtain ⟨u, hu⟩ : ∃ u, l[i]? = some u := ⟨_, List.getElem?_eq_getElem hil⟩
      obtain ⟨ao2, cap2, e2, hat⟩ := (H.out.below BR.out).at
      simp only [Value.slice.injEq, true_and] at e2
      obtain ⟨rfl, rfl⟩ := e2
      obtain ⟨g, o, lu, rfl, hD, c0, c1, c2, c3, hr⟩ := hat i u hu
      have R1 := Lib.hid hr
      obtain ⟨lao, lcap, rfl⟩ := hr.shape
      have HU := Lib.hid hu
      have SS := Lib.hid (HS.out hD)
      clear hat hu hr hD
      cases hk : S u
      · have AF := Lib.hid (show l.all S = false by
          rw [List.all_eq_false]
          exact ⟨u, List.mem_of_getElem? HU.out, by rw [hk]; simp⟩)
        have HK := Lib.hid hk
        clear hk
        go_wp2_with fail
        (with_reducible refine (SS.out.call u _ _ (R1.out.below ?_)).mono ?_)
        · exact below_al (Below.refl _ _) _
        rw [HK.out]
        rintro e w2 ⟨rfl, hb2⟩
        have B2 := Lib.hid (below_tr BR.out (below_tr (below_al (Below.refl _ _) _) hb2))
        clear hb2
        go_wp2_with fail
        go_ret
        exact ⟨by rw [AF.out]; rfl, B2.out⟩
      · have AF := Lib.hid (show (l.take (i + 1)).all S = true by
          rw [List.take_add_one, HU.out, List.all_append]
          simp only [Option.toList_some, List.all_cons, List.all_nil, Bool.and_true, hk]
          exact HI.out)
        have HK := Lib.hid hk
        clear hk
        go_wp2_with fail
        (with_reducible refine (SS.out.call u _ _ (R1.out.below ?_)).mono ?_)
        · exact below_al (Below.refl _ _) _
        rw [HK.out]
        rintro e w2 ⟨rfl, hb2⟩
        have B2 := Lib.hid (below_tr BR.out (below_tr (below_al (Below.refl _ _) _) hb2))
        clear hb2
        go_wp2_with fail
        go_roundg (l.length - (i + 1))
        case rel => exact ⟨i + 1, rfl, Nat.le_refl _, hil, B2.out, AF⟩
        case measure => have := HM.out; omega
    · have AT := Lib.hid (show l.all S = true by have h := HI.out; rwa [List.take_of_length_le (by omega)] at h)
      go_wp2_with fail
      go_ret
      exact ⟨by rw [AT.out]; rfl, BR.out⟩
end
end Go.Proofs.YtndeihmclecmcaaGreatDoor
