/- Is a tree too great? -/
import Derived.Test.YtmpakgabehplbaaTrC
namespace Go.Proofs.Ytmpakgabehplbaa
open Go.RowKit
set_option linter.unusedVariables false
set_option linter.unusedSimpArgs false
section
variable (w : World)
set_option maxHeartbeats 4000000 in
set_option maxRecDepth 20000 in
theorem lgreat12 (l : List I12) (lv : Value) (h : IRow w l lv) (hz : ∀ u ∈ l, u.name.size ≤ maxLen ∧ u.parent.size ≤ maxLen) :
    Calls Try.prog 10 #[lv] w fun e w' => ∃ b : Bool, e = .returned (.bool b) ∧ Below w.heap.size w w' ∧ Hid (b = false → l.length ≤ 130 ∧ ∀ u ∈ l, u.name.size ≤ 100 ∧ u.parent.size ≤ 100) := by
  obtain ⟨ao, cap, rfl, hcap, hmax, hat⟩ := h
  have HAT := Lib.hid hat
  have HZ := Lib.hid hz
  unfold maxLen at hmax
  have hl63 : l.length ≤ 9223372036854775807 := by omega
  clear hat hz hcap hmax
  go_enter Try.func10, Try.ntmps10
  go_wp2_with fail
  go_loopg [3] 150 (fun m iv wr => ∃ k : Nat, iv = .int .i64 k ∧ 150 - k ≤ m ∧ k ≤ l.length ∧ k ≤ 150 ∧ Below w.heap.size w wr ∧ Hid (∀ j y, j < k → l[j]? = some y → y.name.size ≤ 100 ∧ y.parent.size ≤ 100))
  case atStart => exact ⟨0, rfl, Nat.le_refl _, Nat.zero_le _, Nat.zero_le _, Below.refl _ _, Lib.hid (fun j y hj => by omega)⟩
  case round =>
    obtain ⟨k, rfl, hm, hk, hk2, hb, OK⟩ := hrel
    have HM := Lib.hid hm
    have BR := Lib.hid hb
    clear hm hb
    by_cases hlt : k < l.length
    · by_cases h150 : k < 150
      · obtain ⟨u, hu⟩ : ∃ u, l[k]? = some u := ⟨_, List.getElem?_eq_getElem hlt⟩
        have HU := Lib.hid hu
        obtain ⟨g, o, rfl, hcu⟩ := HAT.out k u hu
        have k0 := (hcu.below BR.out).c0
        have k1 := (hcu.below BR.out).c1
        have S1 := Lib.hid (HZ.out u (List.mem_of_getElem? hu))
        have s1 : u.name.size ≤ 9223372036854775807 := by have := S1.out.1; unfold maxLen at this; omega
        have s2 : u.parent.size ≤ 9223372036854775807 := by have := S1.out.2; unfold maxLen at this; omega
        have x0 : (0 : Int) ≤ (k : Int) := by omega
        have x1 : (k : Int) < (l.length : Int) := by omega
        have x2 : (k : Int) < 150 := by omega
        have NX := Lib.hid (show u.name.size ≤ 100 → u.parent.size ≤ 100 → ∀ j y, j < k + 1 → l[j]? = some y → y.name.size ≤ 100 ∧ y.parent.size ≤ 100 from fun h1 h2 j y hj hy => by
          by_cases e : j = k
          · subst e
            obtain rfl : u = y := Option.some.inj (HU.out.symm.trans hy)
            exact ⟨h1, h2⟩
          · exact OK.out j y (by omega) hy)
        clear hu hcu OK
        by_cases g1 : u.name.size ≤ 100
        · have i1 : (u.name.size : Int) ≤ 100 := by omega
          by_cases g2 : u.parent.size ≤ 100
          · have i2 : (u.parent.size : Int) ≤ 100 := by omega
            have NX2 := Lib.hid (NX.out g1 g2)
            clear NX g1 g2
            go_wp2_with fail
            go_roundg (150 - (k + 1))
            case rel => exact ⟨k + 1, by go_num, Nat.le_refl _, hlt, h150, BR.out, NX2⟩
            case measure => have := HM.out; omega
          · have i2 : (100 : Int) < (u.parent.size : Int) := by omega
            clear NX g1 g2
            go_wp2_with fail
            go_ret
            exact ⟨true, rfl, BR.out, Lib.hid (fun h => by cases h)⟩
        · have i1 : (100 : Int) < (u.name.size : Int) := by omega
          clear NX g1
          go_wp2_with fail
          go_ret
          exact ⟨true, rfl, BR.out, Lib.hid (fun h => by cases h)⟩
      · have x2 : (150 : Int) ≤ (k : Int) := by omega
        have LL := Lib.hid (show 150 < l.length + 1 by omega)
        go_wp2_with fail
        go_ret
        refine ⟨decide (130 < (l.length : Int)), rfl, BR.out, Lib.hid (fun h => ?_)⟩
        have := of_decide_eq_false h
        have := LL.out
        omega
    · obtain rfl : k = l.length := by omega
      have AL := Lib.hid (show ∀ u ∈ l, u.name.size ≤ 100 ∧ u.parent.size ≤ 100 from fun u hu => by
        obtain ⟨j, hj, rfl⟩ := List.mem_iff_getElem.1 hu
        exact OK.out j _ hj (List.getElem?_eq_getElem hj))
      go_wp2_with fail
      go_ret
      refine ⟨decide (130 < (l.length : Int)), rfl, BR.out, Lib.hid (fun h => ⟨?_, AL.out⟩)⟩
      have := of_decide_eq_false h
      omega
end
end Go.Proofs.Ytmpakgabehplbaa
