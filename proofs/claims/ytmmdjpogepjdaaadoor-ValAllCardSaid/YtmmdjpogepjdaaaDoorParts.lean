/- What may be, taken apart. -/
import Derived.Test.YtmmdjpogepjdaaaDoorValR
import Derived.Test.YtmmdjpogepjdaaaDoorValMa
namespace Go.Proofs.YtmmdjpogepjdaaaDoor
open Go.RowKit
set_option linter.unusedVariables false
set_option linter.unusedSimpArgs false

theorem empty_bytes {b : ByteArray} (h : b.toList.isEmpty = true) : b = ⟨#[]⟩ := by
  obtain ⟨⟨l⟩⟩ := b
  have : (⟨⟨l⟩⟩ : ByteArray).toList = l := by simp
  rw [this] at h
  cases l with
  | nil => rfl
  | cons a t => cases h
structure Parts (v : VL) : Prop where
  kinds : v.kind = 1 ∨ v.kind = 2 ∨ v.kind = 3 ∨ v.kind = 4
  text : v.text.size ≤ 400
  other : v.kind ≠ 2 → v.text = ⟨#[]⟩
  kids : v.kids.length ≤ 64
  none : v.kind ≠ 4 → v.kids = []
theorem leaf_parts {v : VL} (h : leafB v = true) : Parts v := by
  unfold leafB at h
  split at h
  · rename_i hk
    simp only [Bool.and_eq_true, beq_iff_eq] at h
    have e := empty_bytes h.1
    exact ⟨.inl hk, by rw [e]; decide, fun _ => e, by omega, fun _ => List.eq_nil_of_length_eq_zero h.2⟩
  · split at h
    · rename_i hk
      simp only [Bool.and_eq_true, beq_iff_eq, decide_eq_true_eq] at h
      exact ⟨.inr (.inl hk), h.1.2, fun h => absurd hk h, by omega, fun _ => List.eq_nil_of_length_eq_zero h.2⟩
    · split at h
      · rename_i hk
        simp only [Bool.and_eq_true, beq_iff_eq] at h
        have e := empty_bytes h.1.2
        exact ⟨.inr (.inr (.inl hk)), by rw [e]; decide, fun _ => e, by omega, fun _ => List.eq_nil_of_length_eq_zero h.2⟩
      · cases h
theorem may_parts {d : Nat} {v : VL} (h : mayB d v = true) : Parts v := by
  cases d with
  | zero => exact leaf_parts h
  | succ d =>
    unfold mayB at h
    split at h
    · rename_i hk
      simp only [Bool.and_eq_true, decide_eq_true_eq, beq_iff_eq] at h
      have e := empty_bytes h.1.1.2
      exact ⟨.inr (.inr (.inr hk)), by rw [e]; decide, fun _ => e, h.1.2, fun n => absurd hk n⟩
    · exact leaf_parts h
end Go.Proofs.YtmmdjpogepjdaaaDoor
