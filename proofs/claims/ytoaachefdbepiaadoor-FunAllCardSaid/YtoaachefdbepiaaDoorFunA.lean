/- Package fun: what an argument is to be. -/
import Derived.Test.YtoaachefdbepiaaDoorValD
namespace Go.Proofs.YtoaachefdbepiaaDoor
open Go.RowKit
set_option linter.unusedVariables false
set_option linter.unusedSimpArgs false

/-- Is a value of a kind of argument? -/
def fitsB (k : Int) (v : VL) : Bool :=
  if k = 1 then v.kind == 1 else if k = 2 then v.kind == 2 else if k = 3 then v.kind == 4
  else if k = 4 then v.kind == 4 && allB 1 v.kids else if k = 5 then v.kind == 4 && allB 2 v.kids else if k = 6 then v.kind == 4 || v.kind == 2 else true
section
variable (w : World)
theorem ffits1 (v : VL) (lao : Option Addr) (ln lcap : Nat) :
    Calls Tryd.prog 40 #[.int .i64 1, .agg #[.int .i64 v.kind, .int .i64 v.num, .string v.text, .slice lao ln lcap]] w (Made (.bool (v.kind == 1)) w) := by
  go_enter Tryd.func40, Tryd.ntmps40
  go_wp2_with fail
  go_ret
  exact ⟨rfl, below_al (Below.refl _ _) _⟩
theorem ffits2 (v : VL) (lao : Option Addr) (ln lcap : Nat) :
    Calls Tryd.prog 40 #[.int .i64 2, .agg #[.int .i64 v.kind, .int .i64 v.num, .string v.text, .slice lao ln lcap]] w (Made (.bool (v.kind == 2)) w) := by
  go_enter Tryd.func40, Tryd.ntmps40
  go_wp2_with fail
  go_ret
  exact ⟨rfl, below_al (Below.refl _ _) _⟩
theorem ffits3 (v : VL) (lao : Option Addr) (ln lcap : Nat) :
    Calls Tryd.prog 40 #[.int .i64 3, .agg #[.int .i64 v.kind, .int .i64 v.num, .string v.text, .slice lao ln lcap]] w (Made (.bool (v.kind == 4)) w) := by
  go_enter Tryd.func40, Tryd.ntmps40
  go_wp2_with fail
  go_ret
  exact ⟨rfl, below_al (Below.refl _ _) _⟩
theorem ffits0 (v : VL) (lao : Option Addr) (ln lcap : Nat) :
    Calls Tryd.prog 40 #[.int .i64 0, .agg #[.int .i64 v.kind, .int .i64 v.num, .string v.text, .slice lao ln lcap]] w (Made (.bool true) w) := by
  go_enter Tryd.func40, Tryd.ntmps40
  go_wp2_with fail
  go_ret
  exact ⟨rfl, below_al (Below.refl _ _) _⟩
/-- What fits of one kind is to tell. -/
def FitsOf (k c : Int) : Prop := ∀ (v : VL) (lao : Option Addr) (ln lcap : Nat) (w : World),
  Calls Tryd.prog 40 #[.int .i64 k, .agg #[.int .i64 v.kind, .int .i64 v.num, .string v.text, .slice lao ln lcap]] w (Made (.bool (v.kind == c)) w)
theorem FitsOf.call {k c : Int} (h : FitsOf k c) (v : VL) (lao : Option Addr) (ln lcap : Nat) (w : World) :
    Calls Tryd.prog 40 #[.int .i64 k, .agg #[.int .i64 v.kind, .int .i64 v.num, .string v.text, .slice lao ln lcap]] w (Made (.bool (v.kind == c)) w) := h v lao ln lcap w
set_option maxHeartbeats 1000000 in
theorem ffitAll (D : Nat) (k c : Int) (hF : FitsOf k c) (l : List VL) (lv : Value) (h : RowRd w D l lv) : Calls Tryd.prog 53 #[.int .i64 k, lv] w (Made (.bool (allB c l)) w) := by
  have H := Lib.hid h
  have F := Lib.hid hF
  have hl := h.len
  unfold maxLen at hl
  obtain ⟨ao, cap, rfl⟩ := h.shape
  clear h hF
  go_enter Tryd.func53, Tryd.ntmps53
  go_wp2_with fail
  go_loopg [9] l.length (fun m iv wr => ∃ i : Nat, iv = .int .i64 i ∧ l.length - i ≤ m ∧ i ≤ l.length ∧ Below w.heap.size w wr ∧ Hid (allB c (l.take i) = true))
  case atStart => exact ⟨0, rfl, Nat.le_refl _, Nat.zero_le _, Below.refl _ _, Lib.hid rfl⟩
  case round =>
    obtain ⟨i, rfl, hm, hi, hb, HI⟩ := hrel
    have HM := Lib.hid hm
    have BR := Lib.hid hb
    clear hm hb
    by_cases hil : i < l.length
    · obtain ⟨u, hu⟩ : ∃ u, l[i]? = some u := ⟨_, List.getElem?_eq_getElem hil⟩
      obtain ⟨ao2, cap2, e2, hat⟩ := (H.out.below BR.out).at
      simp only [Value.slice.injEq, true_and] at e2
      obtain ⟨rfl, rfl⟩ := e2
      obtain ⟨g, o, lu, rfl, -, c0, c1, c2, c3, hr⟩ := hat i u hu
      obtain ⟨lao, lcap, rfl⟩ := hr.shape
      have HU := Lib.hid hu
      clear hat hu hr
      go_wp2_with fail
      with_reducible refine (F.out.call u _ _ _ _).mono ?_
      rintro e w2 ⟨rfl, hb2⟩
      have B2 := Lib.hid (below_tr (below_al BR.out _) hb2)
      clear hb2
      cases hk : (u.kind == c)
      · have AF := Lib.hid (show allB c l = false by
          unfold allB; rw [List.all_eq_false]
          exact ⟨u, List.mem_of_getElem? HU.out, by rw [hk]; simp⟩)
        clear hk
        go_wp2_with fail
        go_ret
        exact ⟨by rw [AF.out]; rfl, B2.out⟩
      · have AF := Lib.hid (show allB c (l.take (i + 1)) = true by
          unfold allB
          rw [List.take_add_one, HU.out, List.all_append]
          simp only [Option.toList_some, List.all_cons, List.all_nil, Bool.and_true, hk]
          exact HI.out)
        clear hk
        go_wp2_with fail
        go_roundg (l.length - (i + 1))
        case rel => exact ⟨i + 1, rfl, Nat.le_refl _, hil, B2.out, AF⟩
        case measure => have := HM.out; omega
    · have AT := Lib.hid (show allB c l = true by have h := HI.out; rwa [List.take_of_length_le (by omega)] at h)
      go_wp2_with fail
      go_ret
      exact ⟨by rw [AT.out]; rfl, BR.out⟩
theorem ffits4 (D : Nat) (k c : Int) (hkc : (k = 4 ∧ c = 1) ∨ (k = 5 ∧ c = 2)) (v : VL) (lv : Value) (h : RowRd w D v.kids lv) :
    Calls Tryd.prog 40 #[.int .i64 k, .agg #[.int .i64 v.kind, .int .i64 v.num, .string v.text, lv]] w (Made (.bool (v.kind == 4 && allB c v.kids)) w) := by
  have FA := Lib.hid (fun W (hw : Below w.heap.size w W) => ffitAll W D 1 1 (fun v lao ln lcap w => ffits1 w v lao ln lcap) v.kids lv (h.below hw))
  have FB := Lib.hid (fun W (hw : Below w.heap.size w W) => ffitAll W D 2 2 (fun v lao ln lcap w => ffits2 w v lao ln lcap) v.kids lv (h.below hw))
  obtain ⟨lao, lcap, rfl⟩ := h.shape
  clear h
  rcases hkc with ⟨rfl, rfl⟩ | ⟨rfl, rfl⟩
  · go_enter Tryd.func40, Tryd.ntmps40
    go_wp2_with fail
    with_reducible refine (ffits3 _ v _ _ _).mono ?_
    rintro e w1 ⟨rfl, hb1⟩
    have X := Lib.hid ((VBlk.new w v (.slice lao v.kids.length lcap)).below hb1)
    have B1 := Lib.hid (below_tr (below_al (Below.refl w.heap.size w) _) hb1)
    clear hb1
    obtain ⟨x0, x1, x2, x3⟩ := X.out.cells
    cases hk : (v.kind == 4)
    · go_wp2_with fail
      go_ret
      exact ⟨by rw [hk]; rfl, B1.out⟩
    · go_wp2_with fail
      with_reducible refine (FA.out _ B1.out).mono ?_
      rintro e w2 ⟨rfl, hb2⟩
      have B2 := Lib.hid (below_tr B1.out hb2)
      clear hb2
      go_wp2_with fail
      go_ret
      exact ⟨by rw [hk]; rfl, B2.out⟩
  · go_enter Tryd.func40, Tryd.ntmps40
    go_wp2_with fail
    with_reducible refine (ffits3 _ v _ _ _).mono ?_
    rintro e w1 ⟨rfl, hb1⟩
    have X := Lib.hid ((VBlk.new w v (.slice lao v.kids.length lcap)).below hb1)
    have B1 := Lib.hid (below_tr (below_al (Below.refl w.heap.size w) _) hb1)
    clear hb1
    obtain ⟨x0, x1, x2, x3⟩ := X.out.cells
    cases hk : (v.kind == 4)
    · go_wp2_with fail
      go_ret
      exact ⟨by rw [hk]; rfl, B1.out⟩
    · go_wp2_with fail
      with_reducible refine (FB.out _ B1.out).mono ?_
      rintro e w2 ⟨rfl, hb2⟩
      have B2 := Lib.hid (below_tr B1.out hb2)
      clear hb2
      go_wp2_with fail
      go_ret
      exact ⟨by rw [hk]; rfl, B2.out⟩
theorem ffits6 (v : VL) (lao : Option Addr) (ln lcap : Nat) :
    Calls Tryd.prog 40 #[.int .i64 6, .agg #[.int .i64 v.kind, .int .i64 v.num, .string v.text, .slice lao ln lcap]] w (Made (.bool (v.kind == 4 || v.kind == 2)) w) := by
  go_enter Tryd.func40, Tryd.ntmps40
  go_wp2_with fail
  with_reducible refine (ffits3 _ v _ _ _).mono ?_
  rintro e w1 ⟨rfl, hb1⟩
  have X := Lib.hid ((VBlk.new w v (.slice lao ln lcap)).below hb1)
  have B1 := Lib.hid (below_tr (below_al (Below.refl w.heap.size w) _) hb1)
  clear hb1
  obtain ⟨x0, x1, x2, x3⟩ := X.out.cells
  cases hk : (v.kind == 4)
  · go_wp2_with fail
    with_reducible refine (ffits2 _ v _ _ _).mono ?_
    rintro e w2 ⟨rfl, hb2⟩
    have B2 := Lib.hid (below_tr B1.out hb2)
    clear hb2
    go_wp2_with fail
    go_ret
    exact ⟨by rw [hk]; rfl, B2.out⟩
  · go_wp2_with fail
    go_ret
    exact ⟨by rw [hk]; rfl, B1.out⟩
theorem ffits (D : Nat) (k : Int) (hk : 0 ≤ k ∧ k ≤ 6) (v : VL) (lv : Value) (h : RowRd w D v.kids lv) :
    Calls Tryd.prog 40 #[.int .i64 k, .agg #[.int .i64 v.kind, .int .i64 v.num, .string v.text, lv]] w (Made (.bool (fitsB k v)) w) := by
  obtain ⟨lao, lcap, e⟩ := h.shape
  have hk2 : k = 0 ∨ k = 1 ∨ k = 2 ∨ k = 3 ∨ k = 4 ∨ k = 5 ∨ k = 6 := by omega
  rcases hk2 with rfl | rfl | rfl | rfl | rfl | rfl | rfl
  · rw [e]; exact ffits0 w v _ _ _
  · rw [e]; exact ffits1 w v _ _ _
  · rw [e]; exact ffits2 w v _ _ _
  · rw [e]; exact ffits3 w v _ _ _
  · exact ffits4 w D 4 1 (.inl ⟨rfl, rfl⟩) v lv h
  · exact ffits4 w D 5 2 (.inr ⟨rfl, rfl⟩) v lv h
  · rw [e]; exact ffits6 w v _ _ _
end
end Go.Proofs.YtoaachefdbepiaaDoor
