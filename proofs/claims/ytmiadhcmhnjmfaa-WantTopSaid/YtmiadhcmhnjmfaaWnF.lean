/- Declared trees: what the laws call besides: too much to go through; two rows that are one. -/
import Derived.Test.YtmiadhcmhnjmfaaWnE
namespace Go.Proofs.Ytmiadhcmhnjmfaa
open Go.RowKit
set_option linter.unusedVariables false
set_option linter.unusedSimpArgs false
/-- Little enough for a law to go through. -/
def SmallW (l : List W5) : Prop := l.length ≤ 130 ∧ ∀ u ∈ l, u.name.size ≤ 100 ∧ u.parent.size ≤ 100
def GreatP (l : List W5) (w : World) (e : Ending) (w' : World) : Prop := ∃ b : Bool, e = .returned (.bool b) ∧ w = w' ∧ (b = false → SmallW l)
section
variable (w : World)
theorem lnumE (n : Int) : Calls Try.prog 11 #[.int .i64 n] w fun e w' => e = .returned (.int .i64 n) ∧ w = w' := by
  go_enter Try.func11, Try.ntmps11
  go_wp2_with fail
  go_ret
  exact ⟨rfl, rfl⟩
set_option maxHeartbeats 4000000 in
set_option maxRecDepth 20000 in
theorem lgreat (l : List W5) (lv : Value) (h : WRow w l lv) (hz : ∀ u ∈ l, u.name.size ≤ maxLen ∧ u.parent.size ≤ maxLen) : Calls Try.prog 8 #[lv] w (GreatP l w) := by
  obtain ⟨ao, cap, rfl, h1, h2, hat⟩ := h
  have HAT := Lib.hid hat
  have HZ := Lib.hid hz
  unfold maxLen at h2
  have hl : l.length ≤ 9223372036854775807 := by omega
  clear hat h1 h2 hz
  go_enter Try.func8, Try.ntmps8
  go_wp2_with fail
  go_loopg [3] (min l.length 150) (fun m iv wr => ∃ k : Nat, iv = .int .i64 k ∧ min l.length 150 - k ≤ m ∧ k ≤ l.length ∧ k ≤ 150 ∧ w = wr ∧ Hid (∀ j y, j < k → l[j]? = some y → y.name.size ≤ 100 ∧ y.parent.size ≤ 100))
  case atStart => exact ⟨0, rfl, Nat.le_refl _, Nat.zero_le _, Nat.zero_le _, rfl, Lib.hid (fun j y hj => by omega)⟩
  case round =>
    obtain ⟨k, rfl, hm, hk, hk2, rfl, OK⟩ := hrel
    have HM := Lib.hid hm
    clear hm
    by_cases hlt : k < l.length
    · by_cases h150 : k < 150
      · obtain ⟨u, hu⟩ : ∃ u, l[k]? = some u := ⟨_, List.getElem?_eq_getElem hlt⟩
        have HU := Lib.hid hu
        obtain ⟨g, o, rfl, c0, c1, -⟩ := HAT.out k u hu
        obtain ⟨z0, z1⟩ := HZ.out u (List.mem_of_getElem? hu)
        unfold maxLen at z0 z1
        have n0 : u.name.size ≤ 9223372036854775807 := by omega
        have n1 : u.parent.size ≤ 9223372036854775807 := by omega
        clear hu z0 z1
        by_cases g0 : 100 < u.name.size
        · have g0' : (100 : Int) < (u.name.size : Int) := by omega
          go_wp2_with fail
          go_ret
          exact ⟨true, rfl, rfl, fun h => by cases h⟩
        · have g0' : ¬ (100 : Int) < (u.name.size : Int) := by omega
          by_cases g1 : 100 < u.parent.size
          · have g1' : (100 : Int) < (u.parent.size : Int) := by omega
            go_wp2_with fail
            go_ret
            exact ⟨true, rfl, rfl, fun h => by cases h⟩
          · have g1' : ¬ (100 : Int) < (u.parent.size : Int) := by omega
            have NX := Lib.hid (show ∀ j y, j < k + 1 → l[j]? = some y → y.name.size ≤ 100 ∧ y.parent.size ≤ 100 from fun j y hj hy => by
              by_cases e : j = k
              · subst e
                obtain rfl : u = y := Option.some.inj (HU.out.symm.trans hy)
                omega
              · exact OK.out j y (by omega) hy)
            go_wp2_with fail
            go_roundg (min l.length 150 - (k + 1))
            case rel => exact ⟨k + 1, by go_num, Nat.le_refl _, hlt, h150, rfl, NX⟩
            case measure => have := HM.out; omega
      · have hbig : (130 : Int) < (l.length : Int) := by omega
        have hb' : decide ((130 : Int) < (l.length : Int)) = true := by simpa using hbig
        go_wp2_with fail
        go_ret
        exact ⟨true, by first | rfl | simp [hb'], rfl, fun h => by cases h⟩
    · obtain rfl : k = l.length := by omega
      have SM := Lib.hid (show l.length ≤ 130 → SmallW l from fun hle => ⟨hle, fun u hu => by
        obtain ⟨j, hj, rfl⟩ := List.mem_iff_getElem.1 hu
        exact OK.out j _ hj (List.getElem?_eq_getElem hj)⟩)
      by_cases hbig : 130 < l.length
      · have hb' : decide ((130 : Int) < (l.length : Int)) = true := by simp; omega
        go_wp2_with fail
        go_ret
        exact ⟨true, by first | rfl | (show Ending.returned (.bool (decide ((130 : Int) < (l.length : Int)))) = _; rw [hb']), rfl, fun h => by cases h⟩
      · have hb' : decide ((130 : Int) < (l.length : Int)) = false := by simp; omega
        go_wp2_with fail
        go_ret
        exact ⟨false, by first | rfl | (show Ending.returned (.bool (decide ((130 : Int) < (l.length : Int)))) = _; rw [hb']), rfl, fun _ => SM.out (by omega)⟩
set_option maxHeartbeats 4000000 in
set_option maxRecDepth 20000 in
/-- Two rows that are one. -/
theorem psameWants (l : List W5) (av bv : Value) (ha : WRow w l av) (hb : WRow w l bv) : Calls Try.prog 15 #[av, bv] w (Made (.bool true) w) := by
  obtain ⟨ao, ac, rfl, h1, h2, hat⟩ := ha
  obtain ⟨bo, bc, rfl, h3, h4, hbt⟩ := hb
  have HA := Lib.hid hat
  have HB := Lib.hid hbt
  unfold maxLen at h2
  have hl : l.length ≤ 9223372036854775807 := by omega
  clear hat hbt h1 h2 h3 h4
  go_enter Try.func15, Try.ntmps15
  go_wp2_with fail
  go_loopg [5] l.length (fun m iv wr => ∃ k : Nat, iv = .int .i64 k ∧ l.length - k ≤ m ∧ k ≤ l.length ∧ Below w.heap.size w wr)
  case atStart => exact ⟨0, rfl, Nat.le_refl _, Nat.zero_le _, Below.refl _ _⟩
  case round =>
    obtain ⟨k, rfl, hm, hk, hb⟩ := hrel
    have HM := Lib.hid hm
    have BR := Lib.hid hb
    clear hm hb
    by_cases hlt : k < l.length
    · obtain ⟨u, hu⟩ : ∃ u, l[k]? = some u := ⟨_, List.getElem?_eq_getElem hlt⟩
      obtain ⟨g, o, rfl, hat⟩ := HA.out k u hu
      obtain ⟨g2, o2, rfl, hbt⟩ := HB.out k u hu
      obtain ⟨a0, a1, a2, a3, a4⟩ := hat.below BR.out
      obtain ⟨b0, b1, b2, b3, b4⟩ := hbt.below BR.out
      have x0 : (0 : Int) ≤ (k : Int) := by omega
      have x1 : (k : Int) < (l.length : Int) := by omega
      clear hu hat hbt
      go_wp2_with fail
      refine wp_region_mono (by kernel_rfl) (by kernel_rfl) ?_
      simp only [List.map_cons, List.map_nil]
      repeat (first
        | (apply wpM_is
           · (intro us W hW hg K hK
              clear hg
              have d0 := hold hW a0
              have d1 := hold hW a1
              have d2 := hold hW a2
              have d3 := hold hW a3
              have d4 := hold hW a4
              have d5 := hold hW b0
              have d6 := hold hW b1
              have d7 := hold hW b2
              have d8 := hold hW b3
              have d9 := hold hW b4
              simp only [fillA]
              go_simp
              first
              | exact hK _ (Below.refl _ _))
           simp only [setD, List.set_cons_zero, List.set_cons_succ]))
      intro us W hW hg
      simp only [fillA]
      clear hg
      go_wp2_with fail
      go_roundg (l.length - (k + 1))
      case rel => exact ⟨k + 1, by go_num, Nat.le_refl _, hlt, below_tr BR.out hW⟩
      case measure => have := HM.out; omega
    · obtain rfl : k = l.length := by omega
      go_wp2_with fail
      go_ret
      exact ⟨rfl, BR.out⟩
end
/-- What package want is to answer, where it is asked. -/
def CkP : Prop := ∀ (W : World) (l : List W5) (lv : Value), WRow W l lv → (∀ u ∈ l, u.name.size ≤ 1000000 ∧ u.parent.size ≤ 1000000) → l.length ≤ 1000 → Calls Try.prog 12 #[lv] W (Made (.int .i64 (checkL l)) W)
/-- No error but that children are promised too much. -/
def FitW (l : List W5) : Prop := checkL l = 0 ∨ checkL l = 11
def DpP : Prop := ∀ (W : World) (l : List W5) (lv : Value) (s : ByteArray), WRow W l lv → (∀ u ∈ l, u.name.size ≤ 1000000 ∧ u.parent.size ≤ 1000000) → s.size ≤ 1000000 → FitW l → Calls Try.prog 13 #[lv, .string s] W (Made (.int .i64 (depthL l s)) W)
def TpP : Prop := ∀ (W : World) (l : List W5) (lv : Value), WRow W l lv → (∀ u ∈ l, u.name.size ≤ 1000000 ∧ u.parent.size ≤ 1000000) → FitW l → Calls Try.prog 16 #[lv] W (MadeRow (topL l) W)
theorem FitW.len {l : List W5} (h : FitW l) : l.length ≤ 120 := by
  by_cases hb : 120 < l.length
  · unfold FitW checkL at h
    rw [if_pos hb] at h
    rcases h with h | h <;> cases h
  · omega
end Go.Proofs.Ytmiadhcmhnjmfaa
