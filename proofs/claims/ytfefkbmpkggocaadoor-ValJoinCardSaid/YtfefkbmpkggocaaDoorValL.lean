/- The law of texts side by side, walked. -/
import Derived.Test.YtfefkbmpkggocaaDoorValK
namespace Go.Proofs.YtfefkbmpkggocaaDoor
open Go.RowKit
set_option linter.unusedVariables false
set_option linter.unusedSimpArgs false

set_option maxHeartbeats 4000000 in
set_option maxRecDepth 100000 in
theorem law_join (w : World) (v : Value) (xs : List ByteArray) (h : StrsRd w v xs) (hz : ∀ x ∈ xs, x.size ≤ maxLen) (hl : xs.length ≤ maxLen) :
    Calls Tryd.prog 4 #[v] w (Made (.bool true) w) := by
  have H := Lib.hid h
  have HZ := Lib.hid hz
  obtain ⟨ao, cap, rfl⟩ := h.shape
  unfold maxLen at hl
  clear h hz
  go_enter Tryd.func4, Tryd.ntmps4
  go_wp2_with fail
  go_loopg [3, 4] xs.length (fun m sv iv wr => ∃ i : Nat, iv = .int .i64 i ∧ sv = .string (catB (xs.take i)) ∧ xs.length - i ≤ m ∧ i ≤ xs.length ∧ i ≤ 30 ∧ (∀ x ∈ xs.take i, x.size ≤ 300) ∧ w = wr)
  case atStart => exact ⟨0, rfl, rfl, Nat.le_refl _, Nat.zero_le _, Nat.zero_le _, (fun x h => by simp at h), rfl⟩
  case round =>
    obtain ⟨i, rfl, rfl, hm, hi, h30, ha, rfl⟩ := hrel
    have HM := Lib.hid hm
    have HA := Lib.hid ha
    have cs : (catB (xs.take i)).size ≤ 9000 := by
      rw [catB_size]
      have h1 := jsum_le ha
      have h2 : (xs.take i).length ≤ 30 := by simp; omega
      have h3 : (xs.take i).length * 300 ≤ 30 * 300 := Nat.mul_le_mul_right _ h2
      omega
    clear hm ha
    by_cases hgo : i < xs.length ∧ i < 30
    · obtain ⟨hil, hi3⟩ := hgo
      obtain ⟨x, hx⟩ : ∃ x, xs[i]? = some x := ⟨_, List.getElem?_eq_getElem hil⟩
      have hxs := HZ.out x (List.mem_of_getElem? hx)
      unfold maxLen at hxs
      have HX := Lib.hid hx
      obtain ⟨ao2, cap2, e2, -, -, hc⟩ := H.out
      simp only [Value.slice.injEq, true_and] at e2
      obtain ⟨rfl, rfl⟩ := e2
      obtain ⟨g, o, rfl, c0⟩ := hc i x hx
      clear hc hx
      by_cases hb : x.size ≤ 300
      · have CS := Lib.hid (catB_succ HX.out)
        have HA2 := Lib.hid (show ∀ y ∈ xs.take (i + 1), y.size ≤ 300 by
          intro y hy
          rw [List.take_add_one, HX.out, List.mem_append] at hy
          rcases hy with hy | hy
          · exact HA.out y hy
          · simp at hy; rw [hy]; exact hb)
        clear HX
        generalize catB (xs.take i) = sc at *
        go_wp2_with fail
        go_roundg (xs.length - (i + 1))
        case rel => exact ⟨i + 1, rfl, by rw [CS.out], Nat.le_refl _, hil, hi3, HA2.out, rfl⟩
        case measure => have := HM.out; omega
      · clear HX
        generalize catB (xs.take i) = sc at *
        have hb2 : 300 < x.size := by omega
        clear hb
        go_wp2_with fail
        (with_reducible refine (law_awake _).mono ?_)
        rintro e w2 ⟨rfl, hb⟩
        go_wp2_with fail
        go_ret
        exact ⟨rfl, hb⟩
    · by_cases h25 : 25 < xs.length
      · generalize catB (xs.take i) = sc at *
        by_cases hil : i < xs.length
        · have hi3 : i = 30 := by omega
          subst hi3
          clear hgo
          go_wp2_with fail
          (with_reducible refine (law_awake _).mono ?_)
          rintro e w2 ⟨rfl, hb⟩
          go_wp2_with fail
          go_ret
          exact ⟨rfl, hb⟩
        · clear hgo
          go_wp2_with fail
          (with_reducible refine (law_awake _).mono ?_)
          rintro e w2 ⟨rfl, hb⟩
          go_wp2_with fail
          go_ret
          exact ⟨rfl, hb⟩
      · have hil : ¬ i < xs.length := by omega
        have h25' : xs.length ≤ 25 := by omega
        have e : xs.take i = xs := List.take_of_length_le (by omega)
        rw [e] at cs HA ⊢
        have J := Lib.hid (fun W (hw : Below w.heap.size w W) => vjoin W _ xs (H.out.below hw) (fun x hx => Nat.le_trans (HA.out x hx) (by omega)) (by omega))
        have CZ := Lib.hid (catB_size xs)
        clear hgo h25 e HA HZ
        by_cases h4 : jsum xs ≤ 400
        · have JR := Lib.hid (show joinR xs = (vstr (catB xs), 0) from if_pos h4)
          have c4 : (catB xs).size ≤ 400 := by rw [CZ.out]; exact h4
          clear h4
          have J2 := Lib.hid (show Calls _ _ _ w (IsTold 2 0 (catB xs) 0 w) from by have h := J.out w (Below.refl _ _); rw [JR.out] at h; exact h)
          clear J JR CZ
          generalize catB xs = cx at *
          go_wp2_with fail
          (with_reducible refine J2.out.mono ?_)
          rintro e w2 ⟨rfl, hb⟩
          have K := Lib.hid (show Kept w w2 from hb)
          clear hb
          go_wp2_with fail
          have X := Lib.hid (NBlk.new w2 2 0 cx)
          replace K := Lib.hid (kept_al K.out (.cells #[.int .i64 2, .int .i64 0, .string cx, .slice none 0 0] 24))
          (with_reducible refine (vtext_str _ cx).mono ?_)
          rintro e w3 ⟨rfl, hb⟩
          replace X := Lib.hid (X.out.below hb)
          replace K := Lib.hid (kept_tr K.out hb)
          clear hb
          obtain ⟨x0, x1, x2, x3, xl⟩ := X.out.cells
          have gs : (cx.toList == cx.toList) = true := by simp
          go_wp2_with fail
          (with_reducible refine (lnum _ _).mono ?_)
          rintro e w' ⟨rfl, rfl⟩
          go_wp2_with fail
          (with_reducible refine (lnum _ _).mono ?_)
          rintro e w' ⟨rfl, rfl⟩
          go_wp2_with fail
          (with_reducible refine (law_awake _).mono ?_)
          rintro e w4 ⟨rfl, hb⟩
          replace K := Lib.hid (kept_tr K.out hb)
          clear hb
          go_wp2_with fail
          go_ret
          exact ⟨rfl, K.out⟩
        · have JR := Lib.hid (show joinR xs = (vz, 4) from if_neg h4)
          have c4 : 400 < (catB xs).size := by rw [CZ.out]; omega
          clear h4
          have J2 := Lib.hid (show Calls _ _ _ w (IsTold 0 0 ⟨#[]⟩ 4 w) from by have h := J.out w (Below.refl _ _); rw [JR.out] at h; exact h)
          clear J JR CZ
          generalize catB xs = cx at *
          go_wp2_with fail
          (with_reducible refine J2.out.mono ?_)
          rintro e w2 ⟨rfl, hb⟩
          have K := Lib.hid (show Kept w w2 from hb)
          clear hb
          go_wp2_with fail
          (with_reducible refine (lnum _ _).mono ?_)
          rintro e w' ⟨rfl, rfl⟩
          go_wp2_with fail
          (with_reducible refine (law_awake _).mono ?_)
          rintro e w4 ⟨rfl, hb⟩
          replace K := Lib.hid (kept_tr (kept_al K.out _) hb)
          clear hb
          go_wp2_with fail
          go_ret
          exact ⟨rfl, K.out⟩
end Go.Proofs.YtfefkbmpkggocaaDoor
