/- Room in a live tree: the document's, walked. -/
import Derived.Test.YtmpakgabehplbaaRmH
import Derived.Test.YtmpakgabehplbaaTrN
import Derived.Test.YtmpakgabehplbaaVecN
namespace Go.Proofs.Ytmpakgabehplbaa
open Go.RowKit
set_option linter.unusedVariables false
set_option linter.unusedSimpArgs false
/-- A row of texts, as read. -/
def SRow (w : World) (ss : List ByteArray) (v : Value) : Prop := ∃ ao cap, v = .slice ao ss.length cap ∧ ∀ (i : Nat) (s : ByteArray), ss[i]? = some s → ∃ g o, ao = some ⟨g, o, none⟩ ∧ w.cell? ⟨g, o + i, none⟩ = some (.string s)
theorem SRow.below {w w' : World} {ss : List ByteArray} {v : Value} (h : SRow w ss v) (hb : Below w.heap.size w w') : SRow w' ss v := by
  obtain ⟨ao, cap, e, hc⟩ := h
  refine ⟨ao, cap, e, fun i s hs => ?_⟩
  obtain ⟨g, o, e2, h3⟩ := hc i s hs
  exact ⟨g, o, e2, hold hb h3⟩
theorem SRow.shape {w : World} {ss : List ByteArray} {v : Value} (h : SRow w ss v) : ∃ ao cap, v = .slice ao ss.length cap := by obtain ⟨ao, cap, e, -⟩ := h; exact ⟨ao, cap, e⟩
theorem srow_of {w : World} {B : Nat} {v : Value} {xs : List ByteArray} (h : StrsO w B v xs) : SRow w xs v := by
  obtain ⟨ao, cap, rfl⟩ := h.shape
  refine ⟨ao, cap, rfl, fun i s hs => ?_⟩
  obtain ⟨b, e, hc⟩ := h.cell hs
  exact ⟨b, 0, e, by rw [Nat.zero_add]; exact hc⟩
theorem SRow.nil (w : World) : SRow w [] (.slice none 0 0) := ⟨none, 0, rfl, fun i s h => by simp at h⟩
section
variable (w : World)
set_option maxHeartbeats 4000000 in
set_option maxRecDepth 20000 in
theorem rin (ss : List ByteArray) (sv : Value) (h : SRow w ss sv) (hl : ss.length ≤ 1000) (s : ByteArray) : Calls Try.prog 53 #[sv, .string s] w fun e w' => e = .returned (.bool (inB ss s)) ∧ w = w' := by
  obtain ⟨ao, cap, rfl, hat⟩ := h
  have HAT := Lib.hid hat
  clear hat
  go_enter Try.func53, Try.ntmps53
  go_wp2_with fail
  go_loopg [5] ss.length (fun m iv wr => ∃ k : Nat, iv = .int .i64 k ∧ ss.length - k ≤ m ∧ k ≤ ss.length ∧ w = wr ∧ Hid (∀ j y, j < k → ss[j]? = some y → y ≠ s))
  case atStart => exact ⟨0, rfl, Nat.le_refl _, Nat.zero_le _, rfl, Lib.hid (fun j y hj => by omega)⟩
  case round =>
    obtain ⟨k, rfl, hm, hk, rfl, NB⟩ := hrel
    have HM := Lib.hid hm
    clear hm
    by_cases hlt : k < ss.length
    · obtain ⟨u, hu⟩ : ∃ u, ss[k]? = some u := ⟨_, List.getElem?_eq_getElem hlt⟩
      have HU := Lib.hid hu
      obtain ⟨g, o, rfl, c0⟩ := HAT.out k u hu
      clear hu
      by_cases hn : u = s
      · have e := tstr_is hn
        have R := Lib.hid (show inB ss s = true by rw [inB_iff, ← hn]; exact List.mem_of_getElem? HU.out)
        clear hn
        go_wp2_with fail
        go_ret
        exact ⟨by rw [R.out]; rfl, rfl⟩
      · have e := tstr_ne hn
        have NX := Lib.hid (show ∀ j y, j < k + 1 → ss[j]? = some y → y ≠ s from fun j y hj hy => by
          by_cases ej : j = k
          · subst ej
            obtain rfl : u = y := Option.some.inj (HU.out.symm.trans hy)
            exact hn
          · exact NB.out j y (by omega) hy)
        clear hn
        go_wp2_with fail
        go_roundg (ss.length - (k + 1))
        case rel => exact ⟨k + 1, by go_num, Nat.le_refl _, hlt, rfl, NX⟩
        case measure => have := HM.out; omega
    · obtain rfl : k = ss.length := by omega
      have R := Lib.hid (show inB ss s = false from by
        cases h : inB ss s with
        | false => rfl
        | true =>
          obtain ⟨j, hj, hje⟩ := List.mem_iff_getElem.1 (inB_iff.1 h)
          exact absurd hje (NB.out j _ hj (List.getElem?_eq_getElem hj)))
      go_wp2_with fail
      go_ret
      exact ⟨by rw [R.out]; rfl, rfl⟩
end
end Go.Proofs.Ytmpakgabehplbaa
