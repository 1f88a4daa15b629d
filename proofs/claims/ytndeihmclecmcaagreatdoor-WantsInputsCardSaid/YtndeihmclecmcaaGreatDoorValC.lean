/- Package val: truths, numbers as values, kinds of a row. -/
import Derived.Test.YtndeihmclecmcaaGreatDoorValB
namespace Go.Proofs.YtndeihmclecmcaaGreatDoor
open Go.RowKit
set_option linter.unusedVariables false
set_option linter.unusedSimpArgs false

def nilV : Value := .slice none 0 0
/-- What a call tells that answers a value without a list, or an error. -/
def Told (r : VL × Int) (w : World) (e : Ending) (w' : World) : Prop := e = .returned (.tuple #[.agg #[.int .i64 r.1.kind, .int .i64 r.1.num, .string r.1.text, .slice none 0 0], .int .i64 r.2]) ∧ Below w.heap.size w w'
def numR (p : Int × Int) : VL × Int := if p.2 = 0 then (vnum p.1, 0) else (vz, p.2)
section
variable (w : World)
theorem vboolean (b : Bool) : Calls Tryz.prog 151 #[.bool b] w (Made (.agg #[.int .i64 (vbool b).kind, .int .i64 (vbool b).num, .string (vbool b).text, .slice none 0 0]) w) := by
  cases b
  · go_enter Tryz.func151, Tryz.ntmps151
    go_wp2_with fail
    exact bodyPost_ret (v := .agg #[.int .i64 3, .int .i64 0, .string ⟨#[]⟩, .slice none 0 0]) (by simp [results, Tryz.results151, go_sem]) rfl ⟨rfl, (Below.refl _ _).alloc (Nat.le_refl _) _⟩
  · go_enter Tryz.func151, Tryz.ntmps151
    go_wp2_with fail
    exact bodyPost_ret (v := .agg #[.int .i64 3, .int .i64 1, .string ⟨#[]⟩, .slice none 0 0]) (by simp [results, Tryz.results151, go_sem]) rfl ⟨rfl, (Below.refl _ _).alloc (Nat.le_refl _) _⟩
theorem vnumber (n k : Int) : Calls Tryz.prog 152 #[.int .i64 n, .int .i64 k] w (Told (numR (n, k)) w) := by
  by_cases h : k = 0
  · subst h
    go_enter Tryz.func152, Tryz.ntmps152
    go_wp2_with fail
    exact bodyPost_ret (v := .tuple #[.agg #[.int .i64 1, .int .i64 n, .string ⟨#[]⟩, .slice none 0 0], .int .i64 0]) (by simp [results, Tryz.results152, go_sem]) rfl ⟨rfl, (Below.refl _ _).alloc (Nat.le_refl _) _⟩
  · have g : (k != 0) = true := by simpa using h
    rw [show numR (n, k) = (vz, k) from if_neg h]
    go_enter Tryz.func152, Tryz.ntmps152
    go_wp2_with fail
    exact bodyPost_ret (v := .tuple #[.agg #[.int .i64 0, .int .i64 0, .string ⟨#[]⟩, .slice none 0 0], .int .i64 k]) (by simp [results, Tryz.results152, go_sem]) rfl ⟨rfl, (Below.refl _ _).alloc (Nat.le_refl _) _⟩
def allB (k : Int) (l : List VL) : Bool := l.all fun v => v.kind == k
set_option maxHeartbeats 1000000 in
theorem vall (D : Nat) (k : Int) (l : List VL) (lv : Value) (h : RowRd w D l lv) : Calls Tryz.prog 150 #[.int .i64 k, lv] w (Made (.bool (allB k l)) w) := by
  have H := Lib.hid h
  have hl := h.len
  unfold maxLen at hl
  obtain ⟨ao, cap, rfl⟩ := h.shape
  clear h
  go_enter Tryz.func150, Tryz.ntmps150
  go_wp2_with fail
  go_loopg [9] l.length (fun m iv wr => ∃ i : Nat, iv = .int .i64 i ∧ l.length - i ≤ m ∧ i ≤ l.length ∧ Below w.heap.size w wr ∧ Hid (allB k (l.take i) = true))
  case atStart => exact ⟨0, rfl, Nat.le_refl _, Nat.zero_le _, Below.refl _ _, Lib.hid rfl⟩
  case round =>
    obtain ⟨i, rfl, hm, hi, hb, HI⟩ := hrel
    have HM := Lib.hid hm
    have BR := Lib.hid hb
    clear hm hb
    by_cases hil : i < l.length
    · obtain ⟨u, hu⟩ : ∃ u, l[i]? = some u := ⟨_, List.getElem?_eq_getElem hil⟩
      obtain ⟨ao2, cap2, e2, hat⟩ := (H.out.below BR.out).at
      simp only [Value.slice.injEq, true_and] at e2
      obtain ⟨rfl, rfl⟩ := e2
      obtain ⟨g, o, lu, rfl, -, c0, c1, c2, c3, hr⟩ := hat i u hu
      obtain ⟨lao, lcap, rfl⟩ := hr.shape
      have HU := Lib.hid hu
      clear hat hu hr
      cases hk : (u.kind == k)
      · have g1 : (u.kind != k) = true := by simp at hk ⊢; exact hk
        have AF := Lib.hid (show allB k l = false by
          unfold allB; rw [List.all_eq_false]
          exact ⟨u, List.mem_of_getElem? HU.out, by rw [hk]; simp⟩)
        clear hk
        go_wp2_with fail
        go_ret
        exact ⟨by rw [AF.out]; rfl, BR.out.alloc BR.out.size _⟩
      · have g1 : (u.kind != k) = false := by simp at hk ⊢; exact hk
        have AF := Lib.hid (show allB k (l.take (i + 1)) = true by
          unfold allB
          rw [List.take_add_one, HU.out, List.all_append]
          simp only [Option.toList_some, List.all_cons, List.all_nil, Bool.and_true, hk]
          exact HI.out)
        clear hk
        go_wp2_with fail
        go_roundg (l.length - (i + 1))
        case rel => exact ⟨i + 1, rfl, Nat.le_refl _, hil, BR.out.alloc BR.out.size _, AF⟩
        case measure => have := HM.out; omega
    · have AT := Lib.hid (show allB k l = true by have h := HI.out; rwa [List.take_of_length_le (by omega)] at h)
      go_wp2_with fail
      go_ret
      exact ⟨by rw [AT.out]; rfl, BR.out⟩
def joinedB (k : Int) (a b : Bool) : Bool := if k = 11 then a || b else a && b
theorem vjoined (k : Int) (a b : Bool) : Calls Tryz.prog 154 #[.int .i64 k, .bool a, .bool b] w (Made (.bool (joinedB k a b)) w) := by
  by_cases h : k = 11
  · subst h
    rw [show joinedB 11 a b = (a || b) from if_pos rfl]
    cases a <;> cases b
    all_goals
      go_enter Tryz.func154, Tryz.ntmps154
      go_wp2_with fail
      go_ret
      exact ⟨rfl, Below.refl _ _⟩
  · have g : (k == 11) = false := by simpa using h
    rw [show joinedB k a b = (a && b) from if_neg h]
    clear h
    cases a <;> cases b
    all_goals
      go_enter Tryz.func154, Tryz.ntmps154
      go_wp2_with fail
      go_ret
      exact ⟨rfl, Below.refl _ _⟩
def holdsB (k a b : Int) : Bool := if k = 15 then decide (a < b) else if k = 16 then decide (a ≤ b) else if k = 17 then decide (b < a) else decide (b ≤ a)
theorem vholds (k a b : Int) (hk : 15 ≤ k ∧ k ≤ 18) : Calls Tryz.prog 156 #[.int .i64 k, .int .i64 a, .int .i64 b] w (Made (.bool (holdsB k a b)) w) := by
  have hk2 : k = 15 ∨ k = 16 ∨ k = 17 ∨ k = 18 := by omega
  clear hk
  rcases hk2 with rfl | rfl | rfl | rfl
  all_goals
    go_enter Tryz.func156, Tryz.ntmps156
    go_wp2_with fail
    go_ret
    exact ⟨rfl, Below.refl _ _⟩
end
end Go.Proofs.YtndeihmclecmcaaGreatDoor
