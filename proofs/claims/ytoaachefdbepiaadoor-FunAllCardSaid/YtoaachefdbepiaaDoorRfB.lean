/- The document's right, name by name. -/
import Derived.Test.YtoaachefdbepiaaDoorRfA
import Derived.Test.YtoaachefdbepiaaDoorFunD
namespace Go.Proofs.YtoaachefdbepiaaDoor
open Go.RowKit
set_option linter.unusedVariables false
set_option linter.unusedSimpArgs false

theorem kindAt_one (k : Int) (i : Nat) : kindAt [k] i = k := by unfold kindAt; simp
theorem kindAt_two0 (k j : Int) : kindAt [k, j] 0 = k := rfl
theorem kindAt_two1 (k j : Int) : kindAt [k, j] 1 = j := rfl
section
variable (w : World)
set_option maxHeartbeats 8000000 in
set_option maxRecDepth 20000 in
theorem rright_min (D : Nat) (l : List VL) (lv : Value) (h : RowRd w D l lv) (hn : l.length ≤ 1000) (hkl : ∀ v ∈ l, v.kids.length ≤ 1000) (hnk : ∀ v ∈ l, v.kind ≠ 4 → v.kids = []) : Calls Tryd.prog 19 #[.string ⟨#[109, 105, 110]⟩, lv] w (Made (.bool (fitAllB [1] l)) w) := by
  have H := Lib.hid h
  have NK := Lib.hid hnk
  have KL := Lib.hid hkl
  obtain ⟨ao, cap, rfl⟩ := h.shape
  clear h hnk hkl
  go_enter Tryd.func19, Tryd.ntmps19
  go_wp2_with fail
  go_loopg [5] l.length (fun m iv wr => ∃ i : Nat, iv = .int .i64 i ∧ l.length - i ≤ m ∧ i ≤ l.length ∧ w = wr ∧ Hid (fitUp [1] l i))
  case atStart => exact ⟨0, rfl, Nat.le_refl _, Nat.zero_le _, rfl, Lib.hid (fun j u hj => absurd hj (Nat.not_lt_zero j))⟩
  case round =>
    obtain ⟨i, rfl, hm, hi, rfl, HI⟩ := hrel
    have HM := Lib.hid hm
    clear hm
    by_cases hil : i < l.length
    · obtain ⟨u, hu⟩ : ∃ u, l[i]? = some u := ⟨_, List.getElem?_eq_getElem hil⟩
      obtain ⟨ao2, cap2, e2, hat⟩ := H.out.at
      simp only [Value.slice.injEq, true_and] at e2
      obtain ⟨rfl, rfl⟩ := e2
      obtain ⟨g2, o2, lu, rfl, -, c0, c1, c2, c3, hr⟩ := hat i u hu
      obtain ⟨lao, lcap, rfl⟩ := hr.shape
      have UU := Lib.hid hu
      have RU := Lib.hid hr
      have hkn := KL.out u (List.mem_of_getElem? hu)
      clear hat hu hr c1 c2
      have KA := Lib.hid (kindAt_one 1 i)
      by_cases hk : u.kind = 1
      · have gk : (u.kind != 1) = false := by simpa using hk
        have HK := Lib.hid hk
        clear hk
        have CC := Lib.hid (And.intro c0 c3)
        go_wp2_with fail
        go_loopg [7] u.kids.length (fun m jv wr => ∃ j : Nat, jv = .int .i64 j ∧ u.kids.length - j ≤ m ∧ j ≤ u.kids.length ∧ w = wr)
        case atStart => exact ⟨0, rfl, Nat.le_refl _, Nat.zero_le _, rfl⟩
        case round =>
          obtain ⟨j, rfl, hmj, hj, rfl⟩ := hrel
          have HMJ := Lib.hid hmj
          clear hmj
          by_cases hjl : j < u.kids.length
          · go_wp2_with fail
            go_roundg (u.kids.length - (j + 1))
            case rel => exact ⟨j + 1, rfl, Nat.le_refl _, hjl, rfl⟩
            case measure => have := HMJ.out; omega
          · have FT := Lib.hid (show fitsB (kindAt [1] i) u = true by
              rw [KA.out]
              simp [fitsB, HK.out])
            have FU := Lib.hid (fitUp_succ HI.out UU.out FT.out)
            go_wp2_with fail
            go_roundg (l.length - (i + 1))
            case rel => exact ⟨i + 1, rfl, Nat.le_refl _, hil, rfl, FU⟩
            case measure => have := HM.out; omega
      · have gk : (u.kind != 1) = true := by simpa using hk
        have HK := Lib.hid hk
        clear hk
        have AF := Lib.hid (show fitAllB [1] l = false from fitAllB_bad UU.out (by rw [KA.out]; simp [fitsB, HK.out]))
        go_wp2_with fail
        go_ret
        exact ⟨by rw [AF.out]; rfl, Below.refl _ _⟩
    · have AT := Lib.hid (show fitAllB [1] l = true from fitAllB_ok (by rw [show l.length = i by omega]; exact HI.out))
      go_wp2_with fail
      go_ret
      exact ⟨by rw [AT.out]; rfl, Below.refl _ _⟩
set_option maxHeartbeats 8000000 in
set_option maxRecDepth 20000 in
theorem rright_max (D : Nat) (l : List VL) (lv : Value) (h : RowRd w D l lv) (hn : l.length ≤ 1000) (hkl : ∀ v ∈ l, v.kids.length ≤ 1000) (hnk : ∀ v ∈ l, v.kind ≠ 4 → v.kids = []) : Calls Tryd.prog 19 #[.string ⟨#[109, 97, 120]⟩, lv] w (Made (.bool (fitAllB [1] l)) w) := by
  have H := Lib.hid h
  have NK := Lib.hid hnk
  have KL := Lib.hid hkl
  obtain ⟨ao, cap, rfl⟩ := h.shape
  clear h hnk hkl
  go_enter Tryd.func19, Tryd.ntmps19
  go_wp2_with fail
  go_loopg [5] l.length (fun m iv wr => ∃ i : Nat, iv = .int .i64 i ∧ l.length - i ≤ m ∧ i ≤ l.length ∧ w = wr ∧ Hid (fitUp [1] l i))
  case atStart => exact ⟨0, rfl, Nat.le_refl _, Nat.zero_le _, rfl, Lib.hid (fun j u hj => absurd hj (Nat.not_lt_zero j))⟩
  case round =>
    obtain ⟨i, rfl, hm, hi, rfl, HI⟩ := hrel
    have HM := Lib.hid hm
    clear hm
    by_cases hil : i < l.length
    · obtain ⟨u, hu⟩ : ∃ u, l[i]? = some u := ⟨_, List.getElem?_eq_getElem hil⟩
      obtain ⟨ao2, cap2, e2, hat⟩ := H.out.at
      simp only [Value.slice.injEq, true_and] at e2
      obtain ⟨rfl, rfl⟩ := e2
      obtain ⟨g2, o2, lu, rfl, -, c0, c1, c2, c3, hr⟩ := hat i u hu
      obtain ⟨lao, lcap, rfl⟩ := hr.shape
      have UU := Lib.hid hu
      have RU := Lib.hid hr
      have hkn := KL.out u (List.mem_of_getElem? hu)
      clear hat hu hr c1 c2
      have KA := Lib.hid (kindAt_one 1 i)
      by_cases hk : u.kind = 1
      · have gk : (u.kind != 1) = false := by simpa using hk
        have HK := Lib.hid hk
        clear hk
        have CC := Lib.hid (And.intro c0 c3)
        go_wp2_with fail
        go_loopg [7] u.kids.length (fun m jv wr => ∃ j : Nat, jv = .int .i64 j ∧ u.kids.length - j ≤ m ∧ j ≤ u.kids.length ∧ w = wr)
        case atStart => exact ⟨0, rfl, Nat.le_refl _, Nat.zero_le _, rfl⟩
        case round =>
          obtain ⟨j, rfl, hmj, hj, rfl⟩ := hrel
          have HMJ := Lib.hid hmj
          clear hmj
          by_cases hjl : j < u.kids.length
          · go_wp2_with fail
            go_roundg (u.kids.length - (j + 1))
            case rel => exact ⟨j + 1, rfl, Nat.le_refl _, hjl, rfl⟩
            case measure => have := HMJ.out; omega
          · have FT := Lib.hid (show fitsB (kindAt [1] i) u = true by
              rw [KA.out]
              simp [fitsB, HK.out])
            have FU := Lib.hid (fitUp_succ HI.out UU.out FT.out)
            go_wp2_with fail
            go_roundg (l.length - (i + 1))
            case rel => exact ⟨i + 1, rfl, Nat.le_refl _, hil, rfl, FU⟩
            case measure => have := HM.out; omega
      · have gk : (u.kind != 1) = true := by simpa using hk
        have HK := Lib.hid hk
        clear hk
        have AF := Lib.hid (show fitAllB [1] l = false from fitAllB_bad UU.out (by rw [KA.out]; simp [fitsB, HK.out]))
        go_wp2_with fail
        go_ret
        exact ⟨by rw [AF.out]; rfl, Below.refl _ _⟩
    · have AT := Lib.hid (show fitAllB [1] l = true from fitAllB_ok (by rw [show l.length = i by omega]; exact HI.out))
      go_wp2_with fail
      go_ret
      exact ⟨by rw [AT.out]; rfl, Below.refl _ _⟩
set_option maxHeartbeats 8000000 in
set_option maxRecDepth 20000 in
theorem rright_sum (D : Nat) (l : List VL) (lv : Value) (h : RowRd w D l lv) (hn : l.length ≤ 1000) (hkl : ∀ v ∈ l, v.kids.length ≤ 1000) (hnk : ∀ v ∈ l, v.kind ≠ 4 → v.kids = []) : Calls Tryd.prog 19 #[.string ⟨#[115, 117, 109]⟩, lv] w (Made (.bool (fitAllB [4] l)) w) := by
  have H := Lib.hid h
  have NK := Lib.hid hnk
  have KL := Lib.hid hkl
  obtain ⟨ao, cap, rfl⟩ := h.shape
  clear h hnk hkl
  go_enter Tryd.func19, Tryd.ntmps19
  go_wp2_with fail
  go_loopg [5] l.length (fun m iv wr => ∃ i : Nat, iv = .int .i64 i ∧ l.length - i ≤ m ∧ i ≤ l.length ∧ w = wr ∧ Hid (fitUp [4] l i))
  case atStart => exact ⟨0, rfl, Nat.le_refl _, Nat.zero_le _, rfl, Lib.hid (fun j u hj => absurd hj (Nat.not_lt_zero j))⟩
  case round =>
    obtain ⟨i, rfl, hm, hi, rfl, HI⟩ := hrel
    have HM := Lib.hid hm
    clear hm
    by_cases hil : i < l.length
    · obtain ⟨u, hu⟩ : ∃ u, l[i]? = some u := ⟨_, List.getElem?_eq_getElem hil⟩
      obtain ⟨ao2, cap2, e2, hat⟩ := H.out.at
      simp only [Value.slice.injEq, true_and] at e2
      obtain ⟨rfl, rfl⟩ := e2
      obtain ⟨g2, o2, lu, rfl, -, c0, c1, c2, c3, hr⟩ := hat i u hu
      obtain ⟨lao, lcap, rfl⟩ := hr.shape
      have UU := Lib.hid hu
      have RU := Lib.hid hr
      have hkn := KL.out u (List.mem_of_getElem? hu)
      clear hat hu hr c1 c2
      have KA := Lib.hid (kindAt_one 4 i)
      by_cases hk : u.kind = 4
      · have gk : (u.kind != 4) = false := by simpa using hk
        have HK := Lib.hid hk
        clear hk
        have CC := Lib.hid (And.intro c0 c3)
        go_wp2_with fail
        go_loopg [7] u.kids.length (fun m jv wr => ∃ j : Nat, jv = .int .i64 j ∧ u.kids.length - j ≤ m ∧ j ≤ u.kids.length ∧ w = wr ∧ Hid (∀ (q : Nat) (x : VL), q < j → u.kids[q]? = some x → x.kind = 1))
        case atStart => exact ⟨0, rfl, Nat.le_refl _, Nat.zero_le _, rfl, Lib.hid (fun q x hq => absurd hq (Nat.not_lt_zero q))⟩
        case round =>
          obtain ⟨j, rfl, hmj, hj, rfl, HJ⟩ := hrel
          have HMJ := Lib.hid hmj
          clear hmj
          by_cases hjl : j < u.kids.length
          · obtain ⟨x, hxj⟩ : ∃ x, u.kids[j]? = some x := ⟨_, List.getElem?_eq_getElem hjl⟩
            obtain ⟨ao3, cap3, e3, hat3⟩ := RU.out.at
            simp only [Value.slice.injEq, true_and] at e3
            obtain ⟨rfl, rfl⟩ := e3
            obtain ⟨g3, o3, lu3, rfl, -, x0, x1, x2, x3, -⟩ := hat3 j x hxj
            have XJ := Lib.hid hxj
            clear hat3 hxj
            by_cases hxk : x.kind = 1
            · have gx : (x.kind != 1) = false := by simpa using hxk
              have HXK := Lib.hid hxk
              clear hxk
              go_wp2_with fail
              go_roundg (u.kids.length - (j + 1))
              case rel => exact ⟨j + 1, rfl, Nat.le_refl _, hjl, rfl, Lib.hid (fun q y hq hy => by
                rcases Nat.lt_succ_iff_lt_or_eq.1 hq with h1 | h1
                · exact HJ.out q y h1 hy
                · rw [h1, XJ.out] at hy; cases hy; exact HXK.out)⟩
              case measure => have := HMJ.out; omega
            · have gx : (x.kind != 1) = true := by simpa using hxk
              have NX := Lib.hid (show allB 1 u.kids = false by unfold allB; rw [List.all_eq_false]; exact ⟨x, List.mem_of_getElem? XJ.out, by simpa using hxk⟩)
              clear hxk
              have AF := Lib.hid (show fitAllB [4] l = false from fitAllB_bad UU.out (by rw [KA.out]; simp [fitsB, NX.out]))
              go_wp2_with fail
              go_ret
              exact ⟨by rw [AF.out]; rfl, Below.refl _ _⟩
          · have FT := Lib.hid (show fitsB (kindAt [4] i) u = true by
              rw [KA.out]
              have ha : allB 1 u.kids = true := by
                unfold allB; rw [List.all_eq_true]; intro y hy
                obtain ⟨q, hq, hqe⟩ := List.mem_iff_getElem.1 hy
                have := HJ.out q y (by omega) (by rw [List.getElem?_eq_getElem hq, hqe])
                simpa using this
              simp [fitsB, HK.out, ha])
            have FU := Lib.hid (fitUp_succ HI.out UU.out FT.out)
            go_wp2_with fail
            go_roundg (l.length - (i + 1))
            case rel => exact ⟨i + 1, rfl, Nat.le_refl _, hil, rfl, FU⟩
            case measure => have := HM.out; omega
      · have gk : (u.kind != 4) = true := by simpa using hk
        have HK := Lib.hid hk
        clear hk
        have AF := Lib.hid (show fitAllB [4] l = false from fitAllB_bad UU.out (by rw [KA.out]; simp [fitsB, HK.out]))
        go_wp2_with fail
        go_ret
        exact ⟨by rw [AF.out]; rfl, Below.refl _ _⟩
    · have AT := Lib.hid (show fitAllB [4] l = true from fitAllB_ok (by rw [show l.length = i by omega]; exact HI.out))
      go_wp2_with fail
      go_ret
      exact ⟨by rw [AT.out]; rfl, Below.refl _ _⟩
set_option maxHeartbeats 8000000 in
set_option maxRecDepth 20000 in
theorem rright_len (D : Nat) (l : List VL) (lv : Value) (h : RowRd w D l lv) (hn : l.length ≤ 1000) (hkl : ∀ v ∈ l, v.kids.length ≤ 1000) (hnk : ∀ v ∈ l, v.kind ≠ 4 → v.kids = []) : Calls Tryd.prog 19 #[.string ⟨#[108, 101, 110]⟩, lv] w (Made (.bool (fitAllB [6] l)) w) := by
  have H := Lib.hid h
  have NK := Lib.hid hnk
  have KL := Lib.hid hkl
  obtain ⟨ao, cap, rfl⟩ := h.shape
  clear h hnk hkl
  go_enter Tryd.func19, Tryd.ntmps19
  go_wp2_with fail
  go_loopg [5] l.length (fun m iv wr => ∃ i : Nat, iv = .int .i64 i ∧ l.length - i ≤ m ∧ i ≤ l.length ∧ w = wr ∧ Hid (fitUp [6] l i))
  case atStart => exact ⟨0, rfl, Nat.le_refl _, Nat.zero_le _, rfl, Lib.hid (fun j u hj => absurd hj (Nat.not_lt_zero j))⟩
  case round =>
    obtain ⟨i, rfl, hm, hi, rfl, HI⟩ := hrel
    have HM := Lib.hid hm
    clear hm
    by_cases hil : i < l.length
    · obtain ⟨u, hu⟩ : ∃ u, l[i]? = some u := ⟨_, List.getElem?_eq_getElem hil⟩
      obtain ⟨ao2, cap2, e2, hat⟩ := H.out.at
      simp only [Value.slice.injEq, true_and] at e2
      obtain ⟨rfl, rfl⟩ := e2
      obtain ⟨g2, o2, lu, rfl, -, c0, c1, c2, c3, hr⟩ := hat i u hu
      obtain ⟨lao, lcap, rfl⟩ := hr.shape
      have UU := Lib.hid hu
      have RU := Lib.hid hr
      have hkn := KL.out u (List.mem_of_getElem? hu)
      clear hat hu hr c1 c2
      have KA := Lib.hid (kindAt_one 6 i)
      by_cases hk4 : u.kind = 4
      · have g4 : (u.kind != 4) = false := by simpa using hk4
        have HK := Lib.hid hk4
        clear hk4
        have CC := Lib.hid (And.intro c0 c3)
        go_wp2_with fail
        go_loopg [7] u.kids.length (fun m jv wr => ∃ j : Nat, jv = .int .i64 j ∧ u.kids.length - j ≤ m ∧ j ≤ u.kids.length ∧ w = wr)
        case atStart => exact ⟨0, rfl, Nat.le_refl _, Nat.zero_le _, rfl⟩
        case round =>
          obtain ⟨j, rfl, hmj, hj, rfl⟩ := hrel
          have HMJ := Lib.hid hmj
          clear hmj
          by_cases hjl : j < u.kids.length
          · go_wp2_with fail
            go_roundg (u.kids.length - (j + 1))
            case rel => exact ⟨j + 1, rfl, Nat.le_refl _, hjl, rfl⟩
            case measure => have := HMJ.out; omega
          · have FT := Lib.hid (show fitsB (kindAt [6] i) u = true by
              rw [KA.out]
              simp [fitsB, HK.out])
            have FU := Lib.hid (fitUp_succ HI.out UU.out FT.out)
            go_wp2_with fail
            go_roundg (l.length - (i + 1))
            case rel => exact ⟨i + 1, rfl, Nat.le_refl _, hil, rfl, FU⟩
            case measure => have := HM.out; omega
      · have g4 : (u.kind != 4) = true := by simpa using hk4
        by_cases hk2 : u.kind = 2
        · have g2 : (u.kind != 2) = false := by simpa using hk2
          have HK := Lib.hid hk2
          clear hk2 hk4
          have CC := Lib.hid (And.intro c0 c3)
          go_wp2_with fail
          go_loopg [7] u.kids.length (fun m jv wr => ∃ j : Nat, jv = .int .i64 j ∧ u.kids.length - j ≤ m ∧ j ≤ u.kids.length ∧ w = wr)
          case atStart => exact ⟨0, rfl, Nat.le_refl _, Nat.zero_le _, rfl⟩
          case round =>
            obtain ⟨j, rfl, hmj, hj, rfl⟩ := hrel
            have HMJ := Lib.hid hmj
            clear hmj
            by_cases hjl : j < u.kids.length
            · go_wp2_with fail
              go_roundg (u.kids.length - (j + 1))
              case rel => exact ⟨j + 1, rfl, Nat.le_refl _, hjl, rfl⟩
              case measure => have := HMJ.out; omega
            · have FT := Lib.hid (show fitsB (kindAt [6] i) u = true by
                rw [KA.out]
                simp [fitsB, HK.out])
              have FU := Lib.hid (fitUp_succ HI.out UU.out FT.out)
              go_wp2_with fail
              go_roundg (l.length - (i + 1))
              case rel => exact ⟨i + 1, rfl, Nat.le_refl _, hil, rfl, FU⟩
              case measure => have := HM.out; omega
        · have g2 : (u.kind != 2) = true := by simpa using hk2
          have HK2 := Lib.hid hk2
          have HK4 := Lib.hid hk4
          clear hk2 hk4
          have AF := Lib.hid (show fitAllB [6] l = false from fitAllB_bad UU.out (by rw [KA.out]; simp [fitsB, HK2.out, HK4.out]))
          go_wp2_with fail
          go_ret
          exact ⟨by rw [AF.out]; rfl, Below.refl _ _⟩
    · have AT := Lib.hid (show fitAllB [6] l = true from fitAllB_ok (by rw [show l.length = i by omega]; exact HI.out))
      go_wp2_with fail
      go_ret
      exact ⟨by rw [AT.out]; rfl, Below.refl _ _⟩
set_option maxHeartbeats 8000000 in
set_option maxRecDepth 20000 in
theorem rright_concat (D : Nat) (l : List VL) (lv : Value) (h : RowRd w D l lv) (hn : l.length ≤ 1000) (hkl : ∀ v ∈ l, v.kids.length ≤ 1000) (hnk : ∀ v ∈ l, v.kind ≠ 4 → v.kids = []) : Calls Tryd.prog 19 #[.string ⟨#[99, 111, 110, 99, 97, 116]⟩, lv] w (Made (.bool (fitAllB [3] l)) w) := by
  have H := Lib.hid h
  have NK := Lib.hid hnk
  have KL := Lib.hid hkl
  obtain ⟨ao, cap, rfl⟩ := h.shape
  clear h hnk hkl
  go_enter Tryd.func19, Tryd.ntmps19
  go_wp2_with fail
  go_loopg [5] l.length (fun m iv wr => ∃ i : Nat, iv = .int .i64 i ∧ l.length - i ≤ m ∧ i ≤ l.length ∧ w = wr ∧ Hid (fitUp [3] l i))
  case atStart => exact ⟨0, rfl, Nat.le_refl _, Nat.zero_le _, rfl, Lib.hid (fun j u hj => absurd hj (Nat.not_lt_zero j))⟩
  case round =>
    obtain ⟨i, rfl, hm, hi, rfl, HI⟩ := hrel
    have HM := Lib.hid hm
    clear hm
    by_cases hil : i < l.length
    · obtain ⟨u, hu⟩ : ∃ u, l[i]? = some u := ⟨_, List.getElem?_eq_getElem hil⟩
      obtain ⟨ao2, cap2, e2, hat⟩ := H.out.at
      simp only [Value.slice.injEq, true_and] at e2
      obtain ⟨rfl, rfl⟩ := e2
      obtain ⟨g2, o2, lu, rfl, -, c0, c1, c2, c3, hr⟩ := hat i u hu
      obtain ⟨lao, lcap, rfl⟩ := hr.shape
      have UU := Lib.hid hu
      have RU := Lib.hid hr
      have hkn := KL.out u (List.mem_of_getElem? hu)
      clear hat hu hr c1 c2
      have KA := Lib.hid (kindAt_one 3 i)
      by_cases hk : u.kind = 4
      · have gk : (u.kind != 4) = false := by simpa using hk
        have HK := Lib.hid hk
        clear hk
        have CC := Lib.hid (And.intro c0 c3)
        go_wp2_with fail
        go_loopg [7] u.kids.length (fun m jv wr => ∃ j : Nat, jv = .int .i64 j ∧ u.kids.length - j ≤ m ∧ j ≤ u.kids.length ∧ w = wr)
        case atStart => exact ⟨0, rfl, Nat.le_refl _, Nat.zero_le _, rfl⟩
        case round =>
          obtain ⟨j, rfl, hmj, hj, rfl⟩ := hrel
          have HMJ := Lib.hid hmj
          clear hmj
          by_cases hjl : j < u.kids.length
          · go_wp2_with fail
            go_roundg (u.kids.length - (j + 1))
            case rel => exact ⟨j + 1, rfl, Nat.le_refl _, hjl, rfl⟩
            case measure => have := HMJ.out; omega
          · have FT := Lib.hid (show fitsB (kindAt [3] i) u = true by
              rw [KA.out]
              simp [fitsB, HK.out])
            have FU := Lib.hid (fitUp_succ HI.out UU.out FT.out)
            go_wp2_with fail
            go_roundg (l.length - (i + 1))
            case rel => exact ⟨i + 1, rfl, Nat.le_refl _, hil, rfl, FU⟩
            case measure => have := HM.out; omega
      · have gk : (u.kind != 4) = true := by simpa using hk
        have HK := Lib.hid hk
        clear hk
        have AF := Lib.hid (show fitAllB [3] l = false from fitAllB_bad UU.out (by rw [KA.out]; simp [fitsB, HK.out]))
        go_wp2_with fail
        go_ret
        exact ⟨by rw [AF.out]; rfl, Below.refl _ _⟩
    · have AT := Lib.hid (show fitAllB [3] l = true from fitAllB_ok (by rw [show l.length = i by omega]; exact HI.out))
      go_wp2_with fail
      go_ret
      exact ⟨by rw [AT.out]; rfl, Below.refl _ _⟩
set_option maxHeartbeats 8000000 in
set_option maxRecDepth 20000 in
theorem rright_join (D : Nat) (l : List VL) (lv : Value) (h : RowRd w D l lv) (hn : l.length ≤ 1000) (h2 : l.length ≤ 2) (hkl : ∀ v ∈ l, v.kids.length ≤ 1000) (hnk : ∀ v ∈ l, v.kind ≠ 4 → v.kids = []) : Calls Tryd.prog 19 #[.string ⟨#[106, 111, 105, 110]⟩, lv] w (Made (.bool (fitAllB [2, 5] l)) w) := by
  have H := Lib.hid h
  have NK := Lib.hid hnk
  have KL := Lib.hid hkl
  obtain ⟨ao, cap, rfl⟩ := h.shape
  clear h hnk hkl
  go_enter Tryd.func19, Tryd.ntmps19
  go_wp2_with fail
  go_loopg [5] l.length (fun m iv wr => ∃ i : Nat, iv = .int .i64 i ∧ l.length - i ≤ m ∧ i ≤ l.length ∧ w = wr ∧ Hid (fitUp [2, 5] l i))
  case atStart => exact ⟨0, rfl, Nat.le_refl _, Nat.zero_le _, rfl, Lib.hid (fun j u hj => absurd hj (Nat.not_lt_zero j))⟩
  case round =>
    obtain ⟨i, rfl, hm, hi, rfl, HI⟩ := hrel
    have HM := Lib.hid hm
    clear hm
    by_cases hil : i < l.length
    · obtain ⟨u, hu⟩ : ∃ u, l[i]? = some u := ⟨_, List.getElem?_eq_getElem hil⟩
      obtain ⟨ao2, cap2, e2, hat⟩ := H.out.at
      simp only [Value.slice.injEq, true_and] at e2
      obtain ⟨rfl, rfl⟩ := e2
      obtain ⟨g2, o2, lu, rfl, -, c0, c1, c2, c3, hr⟩ := hat i u hu
      obtain ⟨lao, lcap, rfl⟩ := hr.shape
      have UU := Lib.hid hu
      have RU := Lib.hid hr
      have hkn := KL.out u (List.mem_of_getElem? hu)
      clear hat hu hr c1 c2
      by_cases hi0 : i = 0
      · have KA := Lib.hid (show kindAt [2, 5] i = 2 by rw [hi0]; rfl)
        have gi0 : ((i : Int) == 0) = true := by simp; omega
        have gi1 : ((i : Int) == 1) = false := by simp; omega
        clear hi0
        by_cases hk : u.kind = 2
        · have gk : (u.kind != 2) = false := by simpa using hk
          have HK := Lib.hid hk
          clear hk
          have KE := NK.out u (List.mem_of_getElem? UU.out) (by rw [HK.out]; decide)
          have FT := Lib.hid (show fitsB (kindAt [2, 5] i) u = true by rw [KA.out]; simp [fitsB, HK.out])
          have FU := Lib.hid (fitUp_succ HI.out UU.out FT.out)
          have hz : u.kids.length = 0 := by rw [KE]; rfl
          rw [hz] at c3
          clear hz KE RU
          go_wp2_with fail
          go_loopg [7] 0 (fun m jv wr => jv = .int .i64 0 ∧ w = wr)
          case atStart => exact ⟨rfl, rfl⟩
          case round =>
            obtain ⟨rfl, rfl⟩ := hrel
            go_wp2_with fail
            go_roundg (l.length - (i + 1))
            case rel => exact ⟨i + 1, rfl, Nat.le_refl _, hil, rfl, FU⟩
            case measure => have := HM.out; omega
        · have gk : (u.kind != 2) = true := by simpa using hk
          have HK := Lib.hid hk
          clear hk
          have AF := Lib.hid (show fitAllB [2, 5] l = false from fitAllB_bad UU.out (by rw [KA.out]; simp [fitsB, HK.out]))
          go_wp2_with fail
          go_ret
          exact ⟨by rw [AF.out]; rfl, Below.refl _ _⟩
      · have KA := Lib.hid (show kindAt [2, 5] i = 5 by rw [show i = 1 by omega]; rfl)
        have gi0 : ((i : Int) == 0) = false := by simp; omega
        have gi1 : ((i : Int) == 1) = true := by simp; omega
        clear hi0
        by_cases hk : u.kind = 4
        · have gk : (u.kind != 4) = false := by simpa using hk
          have HK := Lib.hid hk
          clear hk
          have CC := Lib.hid (And.intro c0 c3)
          go_wp2_with fail
          go_loopg [7] u.kids.length (fun m jv wr => ∃ j : Nat, jv = .int .i64 j ∧ u.kids.length - j ≤ m ∧ j ≤ u.kids.length ∧ w = wr ∧ Hid (∀ (q : Nat) (x : VL), q < j → u.kids[q]? = some x → x.kind = 2))
          case atStart => exact ⟨0, rfl, Nat.le_refl _, Nat.zero_le _, rfl, Lib.hid (fun q x hq => absurd hq (Nat.not_lt_zero q))⟩
          case round =>
            obtain ⟨j, rfl, hmj, hj, rfl, HJ⟩ := hrel
            have HMJ := Lib.hid hmj
            clear hmj
            by_cases hjl : j < u.kids.length
            · obtain ⟨x, hxj⟩ : ∃ x, u.kids[j]? = some x := ⟨_, List.getElem?_eq_getElem hjl⟩
              obtain ⟨ao3, cap3, e3, hat3⟩ := RU.out.at
              simp only [Value.slice.injEq, true_and] at e3
              obtain ⟨rfl, rfl⟩ := e3
              obtain ⟨g3, o3, lu3, rfl, -, x0, x1, x2, x3, -⟩ := hat3 j x hxj
              have XJ := Lib.hid hxj
              clear hat3 hxj
              by_cases hxk : x.kind = 2
              · have gx : (x.kind != 2) = false := by simpa using hxk
                have HXK := Lib.hid hxk
                clear hxk
                go_wp2_with fail
                go_roundg (u.kids.length - (j + 1))
                case rel => exact ⟨j + 1, rfl, Nat.le_refl _, hjl, rfl, Lib.hid (fun q y hq hy => by
                  rcases Nat.lt_succ_iff_lt_or_eq.1 hq with h1 | h1
                  · exact HJ.out q y h1 hy
                  · rw [h1, XJ.out] at hy; cases hy; exact HXK.out)⟩
                case measure => have := HMJ.out; omega
              · have gx : (x.kind != 2) = true := by simpa using hxk
                have NX := Lib.hid (show allB 2 u.kids = false by unfold allB; rw [List.all_eq_false]; exact ⟨x, List.mem_of_getElem? XJ.out, by simpa using hxk⟩)
                clear hxk
                have AF := Lib.hid (show fitAllB [2, 5] l = false from fitAllB_bad UU.out (by rw [KA.out]; simp [fitsB, NX.out]))
                go_wp2_with fail
                go_ret
                exact ⟨by rw [AF.out]; rfl, Below.refl _ _⟩
            · have FT := Lib.hid (show fitsB (kindAt [2, 5] i) u = true by
                rw [KA.out]
                have ha : allB 2 u.kids = true := by
                  unfold allB; rw [List.all_eq_true]; intro y hy
                  obtain ⟨q, hq, hqe⟩ := List.mem_iff_getElem.1 hy
                  have := HJ.out q y (by omega) (by rw [List.getElem?_eq_getElem hq, hqe])
                  simpa using this
                simp [fitsB, HK.out, ha])
              have FU := Lib.hid (fitUp_succ HI.out UU.out FT.out)
              go_wp2_with fail
              go_roundg (l.length - (i + 1))
              case rel => exact ⟨i + 1, rfl, Nat.le_refl _, hil, rfl, FU⟩
              case measure => have := HM.out; omega
        · have gk : (u.kind != 4) = true := by simpa using hk
          have HK := Lib.hid hk
          clear hk
          have AF := Lib.hid (show fitAllB [2, 5] l = false from fitAllB_bad UU.out (by rw [KA.out]; simp [fitsB, HK.out]))
          go_wp2_with fail
          go_ret
          exact ⟨by rw [AF.out]; rfl, Below.refl _ _⟩
    · have AT := Lib.hid (show fitAllB [2, 5] l = true from fitAllB_ok (by rw [show l.length = i by omega]; exact HI.out))
      go_wp2_with fail
      go_ret
      exact ⟨by rw [AT.out]; rfl, Below.refl _ _⟩
set_option maxHeartbeats 8000000 in
set_option maxRecDepth 20000 in
theorem rright_range (D : Nat) (l : List VL) (lv : Value) (h : RowRd w D l lv) (hn : l.length ≤ 1000) (hkl : ∀ v ∈ l, v.kids.length ≤ 1000) (hnk : ∀ v ∈ l, v.kind ≠ 4 → v.kids = []) : Calls Tryd.prog 19 #[.string ⟨#[114, 97, 110, 103, 101]⟩, lv] w (Made (.bool (fitAllB [1] l)) w) := by
  have H := Lib.hid h
  have NK := Lib.hid hnk
  have KL := Lib.hid hkl
  obtain ⟨ao, cap, rfl⟩ := h.shape
  clear h hnk hkl
  go_enter Tryd.func19, Tryd.ntmps19
  go_wp2_with fail
  go_loopg [5] l.length (fun m iv wr => ∃ i : Nat, iv = .int .i64 i ∧ l.length - i ≤ m ∧ i ≤ l.length ∧ w = wr ∧ Hid (fitUp [1] l i))
  case atStart => exact ⟨0, rfl, Nat.le_refl _, Nat.zero_le _, rfl, Lib.hid (fun j u hj => absurd hj (Nat.not_lt_zero j))⟩
  case round =>
    obtain ⟨i, rfl, hm, hi, rfl, HI⟩ := hrel
    have HM := Lib.hid hm
    clear hm
    by_cases hil : i < l.length
    · obtain ⟨u, hu⟩ : ∃ u, l[i]? = some u := ⟨_, List.getElem?_eq_getElem hil⟩
      obtain ⟨ao2, cap2, e2, hat⟩ := H.out.at
      simp only [Value.slice.injEq, true_and] at e2
      obtain ⟨rfl, rfl⟩ := e2
      obtain ⟨g2, o2, lu, rfl, -, c0, c1, c2, c3, hr⟩ := hat i u hu
      obtain ⟨lao, lcap, rfl⟩ := hr.shape
      have UU := Lib.hid hu
      have RU := Lib.hid hr
      have hkn := KL.out u (List.mem_of_getElem? hu)
      clear hat hu hr c1 c2
      have KA := Lib.hid (kindAt_one 1 i)
      by_cases hk : u.kind = 1
      · have gk : (u.kind != 1) = false := by simpa using hk
        have HK := Lib.hid hk
        clear hk
        have CC := Lib.hid (And.intro c0 c3)
        go_wp2_with fail
        go_loopg [7] u.kids.length (fun m jv wr => ∃ j : Nat, jv = .int .i64 j ∧ u.kids.length - j ≤ m ∧ j ≤ u.kids.length ∧ w = wr)
        case atStart => exact ⟨0, rfl, Nat.le_refl _, Nat.zero_le _, rfl⟩
        case round =>
          obtain ⟨j, rfl, hmj, hj, rfl⟩ := hrel
          have HMJ := Lib.hid hmj
          clear hmj
          by_cases hjl : j < u.kids.length
          · go_wp2_with fail
            go_roundg (u.kids.length - (j + 1))
            case rel => exact ⟨j + 1, rfl, Nat.le_refl _, hjl, rfl⟩
            case measure => have := HMJ.out; omega
          · have FT := Lib.hid (show fitsB (kindAt [1] i) u = true by
              rw [KA.out]
              simp [fitsB, HK.out])
            have FU := Lib.hid (fitUp_succ HI.out UU.out FT.out)
            go_wp2_with fail
            go_roundg (l.length - (i + 1))
            case rel => exact ⟨i + 1, rfl, Nat.le_refl _, hil, rfl, FU⟩
            case measure => have := HM.out; omega
      · have gk : (u.kind != 1) = true := by simpa using hk
        have HK := Lib.hid hk
        clear hk
        have AF := Lib.hid (show fitAllB [1] l = false from fitAllB_bad UU.out (by rw [KA.out]; simp [fitsB, HK.out]))
        go_wp2_with fail
        go_ret
        exact ⟨by rw [AF.out]; rfl, Below.refl _ _⟩
    · have AT := Lib.hid (show fitAllB [1] l = true from fitAllB_ok (by rw [show l.length = i by omega]; exact HI.out))
      go_wp2_with fail
      go_ret
      exact ⟨by rw [AT.out]; rfl, Below.refl _ _⟩
set_option maxHeartbeats 8000000 in
set_option maxRecDepth 20000 in
theorem rright_abs (D : Nat) (l : List VL) (lv : Value) (h : RowRd w D l lv) (hn : l.length ≤ 1000) (hkl : ∀ v ∈ l, v.kids.length ≤ 1000) (hnk : ∀ v ∈ l, v.kind ≠ 4 → v.kids = []) : Calls Tryd.prog 19 #[.string ⟨#[97, 98, 115]⟩, lv] w (Made (.bool (fitAllB [1] l)) w) := by
  have H := Lib.hid h
  have NK := Lib.hid hnk
  have KL := Lib.hid hkl
  obtain ⟨ao, cap, rfl⟩ := h.shape
  clear h hnk hkl
  go_enter Tryd.func19, Tryd.ntmps19
  go_wp2_with fail
  go_loopg [5] l.length (fun m iv wr => ∃ i : Nat, iv = .int .i64 i ∧ l.length - i ≤ m ∧ i ≤ l.length ∧ w = wr ∧ Hid (fitUp [1] l i))
  case atStart => exact ⟨0, rfl, Nat.le_refl _, Nat.zero_le _, rfl, Lib.hid (fun j u hj => absurd hj (Nat.not_lt_zero j))⟩
  case round =>
    obtain ⟨i, rfl, hm, hi, rfl, HI⟩ := hrel
    have HM := Lib.hid hm
    clear hm
    by_cases hil : i < l.length
    · obtain ⟨u, hu⟩ : ∃ u, l[i]? = some u := ⟨_, List.getElem?_eq_getElem hil⟩
      obtain ⟨ao2, cap2, e2, hat⟩ := H.out.at
      simp only [Value.slice.injEq, true_and] at e2
      obtain ⟨rfl, rfl⟩ := e2
      obtain ⟨g2, o2, lu, rfl, -, c0, c1, c2, c3, hr⟩ := hat i u hu
      obtain ⟨lao, lcap, rfl⟩ := hr.shape
      have UU := Lib.hid hu
      have RU := Lib.hid hr
      have hkn := KL.out u (List.mem_of_getElem? hu)
      clear hat hu hr c1 c2
      have KA := Lib.hid (kindAt_one 1 i)
      by_cases hk : u.kind = 1
      · have gk : (u.kind != 1) = false := by simpa using hk
        have HK := Lib.hid hk
        clear hk
        have CC := Lib.hid (And.intro c0 c3)
        go_wp2_with fail
        go_loopg [7] u.kids.length (fun m jv wr => ∃ j : Nat, jv = .int .i64 j ∧ u.kids.length - j ≤ m ∧ j ≤ u.kids.length ∧ w = wr)
        case atStart => exact ⟨0, rfl, Nat.le_refl _, Nat.zero_le _, rfl⟩
        case round =>
          obtain ⟨j, rfl, hmj, hj, rfl⟩ := hrel
          have HMJ := Lib.hid hmj
          clear hmj
          by_cases hjl : j < u.kids.length
          · go_wp2_with fail
            go_roundg (u.kids.length - (j + 1))
            case rel => exact ⟨j + 1, rfl, Nat.le_refl _, hjl, rfl⟩
            case measure => have := HMJ.out; omega
          · have FT := Lib.hid (show fitsB (kindAt [1] i) u = true by
              rw [KA.out]
              simp [fitsB, HK.out])
            have FU := Lib.hid (fitUp_succ HI.out UU.out FT.out)
            go_wp2_with fail
            go_roundg (l.length - (i + 1))
            case rel => exact ⟨i + 1, rfl, Nat.le_refl _, hil, rfl, FU⟩
            case measure => have := HM.out; omega
      · have gk : (u.kind != 1) = true := by simpa using hk
        have HK := Lib.hid hk
        clear hk
        have AF := Lib.hid (show fitAllB [1] l = false from fitAllB_bad UU.out (by rw [KA.out]; simp [fitsB, HK.out]))
        go_wp2_with fail
        go_ret
        exact ⟨by rw [AF.out]; rfl, Below.refl _ _⟩
    · have AT := Lib.hid (show fitAllB [1] l = true from fitAllB_ok (by rw [show l.length = i by omega]; exact HI.out))
      go_wp2_with fail
      go_ret
      exact ⟨by rw [AT.out]; rfl, Below.refl _ _⟩
set_option maxHeartbeats 8000000 in
set_option maxRecDepth 20000 in
theorem rright_has (D : Nat) (l : List VL) (lv : Value) (h : RowRd w D l lv) (hn : l.length ≤ 1000) (h2 : l.length ≤ 2) (hkl : ∀ v ∈ l, v.kids.length ≤ 1000) (hnk : ∀ v ∈ l, v.kind ≠ 4 → v.kids = []) : Calls Tryd.prog 19 #[.string ⟨#[104, 97, 115]⟩, lv] w (Made (.bool (fitAllB [3, 0] l)) w) := by
  have H := Lib.hid h
  have NK := Lib.hid hnk
  have KL := Lib.hid hkl
  obtain ⟨ao, cap, rfl⟩ := h.shape
  clear h hnk hkl
  go_enter Tryd.func19, Tryd.ntmps19
  go_wp2_with fail
  go_loopg [5] l.length (fun m iv wr => ∃ i : Nat, iv = .int .i64 i ∧ l.length - i ≤ m ∧ i ≤ l.length ∧ w = wr ∧ Hid (fitUp [3, 0] l i))
  case atStart => exact ⟨0, rfl, Nat.le_refl _, Nat.zero_le _, rfl, Lib.hid (fun j u hj => absurd hj (Nat.not_lt_zero j))⟩
  case round =>
    obtain ⟨i, rfl, hm, hi, rfl, HI⟩ := hrel
    have HM := Lib.hid hm
    clear hm
    by_cases hil : i < l.length
    · obtain ⟨u, hu⟩ : ∃ u, l[i]? = some u := ⟨_, List.getElem?_eq_getElem hil⟩
      obtain ⟨ao2, cap2, e2, hat⟩ := H.out.at
      simp only [Value.slice.injEq, true_and] at e2
      obtain ⟨rfl, rfl⟩ := e2
      obtain ⟨g2, o2, lu, rfl, -, c0, c1, c2, c3, hr⟩ := hat i u hu
      obtain ⟨lao, lcap, rfl⟩ := hr.shape
      have UU := Lib.hid hu
      have RU := Lib.hid hr
      have hkn := KL.out u (List.mem_of_getElem? hu)
      clear hat hu hr c1 c2
      by_cases hi0 : i = 0
      · have KA := Lib.hid (show kindAt [3, 0] i = 3 by rw [hi0]; rfl)
        have gi0 : ((i : Int) == 0) = true := by simp; omega
        have gi1 : ((i : Int) == 1) = false := by simp; omega
        clear hi0
        by_cases hk : u.kind = 4
        · have gk : (u.kind != 4) = false := by simpa using hk
          have HK := Lib.hid hk
          clear hk
          have CC := Lib.hid (And.intro c0 c3)
          go_wp2_with fail
          go_loopg [7] u.kids.length (fun m jv wr => ∃ j : Nat, jv = .int .i64 j ∧ u.kids.length - j ≤ m ∧ j ≤ u.kids.length ∧ w = wr)
          case atStart => exact ⟨0, rfl, Nat.le_refl _, Nat.zero_le _, rfl⟩
          case round =>
            obtain ⟨j, rfl, hmj, hj, rfl⟩ := hrel
            have HMJ := Lib.hid hmj
            clear hmj
            by_cases hjl : j < u.kids.length
            · go_wp2_with fail
              go_roundg (u.kids.length - (j + 1))
              case rel => exact ⟨j + 1, rfl, Nat.le_refl _, hjl, rfl⟩
              case measure => have := HMJ.out; omega
            · have FT := Lib.hid (show fitsB (kindAt [3, 0] i) u = true by
                rw [KA.out]
                simp [fitsB, HK.out])
              have FU := Lib.hid (fitUp_succ HI.out UU.out FT.out)
              go_wp2_with fail
              go_roundg (l.length - (i + 1))
              case rel => exact ⟨i + 1, rfl, Nat.le_refl _, hil, rfl, FU⟩
              case measure => have := HM.out; omega
        · have gk : (u.kind != 4) = true := by simpa using hk
          have HK := Lib.hid hk
          clear hk
          have AF := Lib.hid (show fitAllB [3, 0] l = false from fitAllB_bad UU.out (by rw [KA.out]; simp [fitsB, HK.out]))
          go_wp2_with fail
          go_ret
          exact ⟨by rw [AF.out]; rfl, Below.refl _ _⟩
      · have KA := Lib.hid (show kindAt [3, 0] i = 0 by rw [show i = 1 by omega]; rfl)
        have gi0 : ((i : Int) == 0) = false := by simp; omega
        have gi1 : ((i : Int) == 1) = true := by simp; omega
        clear hi0
        have CC := Lib.hid (And.intro c0 c3)
        go_wp2_with fail
        go_loopg [7] u.kids.length (fun m jv wr => ∃ j : Nat, jv = .int .i64 j ∧ u.kids.length - j ≤ m ∧ j ≤ u.kids.length ∧ w = wr)
        case atStart => exact ⟨0, rfl, Nat.le_refl _, Nat.zero_le _, rfl⟩
        case round =>
          obtain ⟨j, rfl, hmj, hj, rfl⟩ := hrel
          have HMJ := Lib.hid hmj
          clear hmj
          by_cases hjl : j < u.kids.length
          · go_wp2_with fail
            go_roundg (u.kids.length - (j + 1))
            case rel => exact ⟨j + 1, rfl, Nat.le_refl _, hjl, rfl⟩
            case measure => have := HMJ.out; omega
          · have FT := Lib.hid (show fitsB (kindAt [3, 0] i) u = true by
              rw [KA.out]
              simp [fitsB])
            have FU := Lib.hid (fitUp_succ HI.out UU.out FT.out)
            go_wp2_with fail
            go_roundg (l.length - (i + 1))
            case rel => exact ⟨i + 1, rfl, Nat.le_refl _, hil, rfl, FU⟩
            case measure => have := HM.out; omega
    · have AT := Lib.hid (show fitAllB [3, 0] l = true from fitAllB_ok (by rw [show l.length = i by omega]; exact HI.out))
      go_wp2_with fail
      go_ret
      exact ⟨by rw [AT.out]; rfl, Below.refl _ _⟩
set_option maxHeartbeats 8000000 in
set_option maxRecDepth 20000 in
theorem rright_text (D : Nat) (l : List VL) (lv : Value) (h : RowRd w D l lv) (hn : l.length ≤ 1000) (hkl : ∀ v ∈ l, v.kids.length ≤ 1000) (hnk : ∀ v ∈ l, v.kind ≠ 4 → v.kids = []) : Calls Tryd.prog 19 #[.string ⟨#[116, 101, 120, 116]⟩, lv] w (Made (.bool (fitAllB [0] l)) w) := by
  have H := Lib.hid h
  have NK := Lib.hid hnk
  have KL := Lib.hid hkl
  obtain ⟨ao, cap, rfl⟩ := h.shape
  clear h hnk hkl
  go_enter Tryd.func19, Tryd.ntmps19
  go_wp2_with fail
  go_loopg [5] l.length (fun m iv wr => ∃ i : Nat, iv = .int .i64 i ∧ l.length - i ≤ m ∧ i ≤ l.length ∧ w = wr ∧ Hid (fitUp [0] l i))
  case atStart => exact ⟨0, rfl, Nat.le_refl _, Nat.zero_le _, rfl, Lib.hid (fun j u hj => absurd hj (Nat.not_lt_zero j))⟩
  case round =>
    obtain ⟨i, rfl, hm, hi, rfl, HI⟩ := hrel
    have HM := Lib.hid hm
    clear hm
    by_cases hil : i < l.length
    · obtain ⟨u, hu⟩ : ∃ u, l[i]? = some u := ⟨_, List.getElem?_eq_getElem hil⟩
      obtain ⟨ao2, cap2, e2, hat⟩ := H.out.at
      simp only [Value.slice.injEq, true_and] at e2
      obtain ⟨rfl, rfl⟩ := e2
      obtain ⟨g2, o2, lu, rfl, -, c0, c1, c2, c3, hr⟩ := hat i u hu
      obtain ⟨lao, lcap, rfl⟩ := hr.shape
      have UU := Lib.hid hu
      have RU := Lib.hid hr
      have hkn := KL.out u (List.mem_of_getElem? hu)
      clear hat hu hr c1 c2
      have KA := Lib.hid (kindAt_one 0 i)
      have CC := Lib.hid (And.intro c0 c3)
      go_wp2_with fail
      go_loopg [7] u.kids.length (fun m jv wr => ∃ j : Nat, jv = .int .i64 j ∧ u.kids.length - j ≤ m ∧ j ≤ u.kids.length ∧ w = wr)
      case atStart => exact ⟨0, rfl, Nat.le_refl _, Nat.zero_le _, rfl⟩
      case round =>
        obtain ⟨j, rfl, hmj, hj, rfl⟩ := hrel
        have HMJ := Lib.hid hmj
        clear hmj
        by_cases hjl : j < u.kids.length
        · go_wp2_with fail
          go_roundg (u.kids.length - (j + 1))
          case rel => exact ⟨j + 1, rfl, Nat.le_refl _, hjl, rfl⟩
          case measure => have := HMJ.out; omega
        · have FT := Lib.hid (show fitsB (kindAt [0] i) u = true by
            rw [KA.out]
            simp [fitsB])
          have FU := Lib.hid (fitUp_succ HI.out UU.out FT.out)
          go_wp2_with fail
          go_roundg (l.length - (i + 1))
          case rel => exact ⟨i + 1, rfl, Nat.le_refl _, hil, rfl, FU⟩
          case measure => have := HM.out; omega
    · have AT := Lib.hid (show fitAllB [0] l = true from fitAllB_ok (by rw [show l.length = i by omega]; exact HI.out))
      go_wp2_with fail
      go_ret
      exact ⟨by rw [AT.out]; rfl, Below.refl _ _⟩
end
end Go.Proofs.YtoaachefdbepiaaDoor
