/- How many tokens, and parts, a text has at most. -/
import Derived.Test.YtkbbhgipajhbnaaDoorLexI0
namespace Go.Proofs.YtkbbhgipajhbnaaDoor
open Go.RowKit
set_option linter.unusedVariables false
set_option linter.unusedSimpArgs false
theorem partsAt_few (s : ByteArray) : ∀ n k ps pl r k', partsAt s n k ps pl = some (r, k') → r.length ≤ ps.length + pl.length + (k' - k) := by
  intro n
  induction n with
  | zero => intro k ps pl r k' h; simp [partsAt] at h
  | succ n ih =>
    intro k ps pl r k' h
    have hw : ∀ (ps : List PartL) (pl : List UInt8), (withPl ps pl).length ≤ ps.length + pl.length := by
      intro ps pl
      unfold withPl; split
      · omega
      · rename_i hne
        have : 0 < pl.length := List.length_pos_iff.2 hne
        simp; omega
    rw [partsAt] at h
    split at h
    · simp at h
      have := hw ps pl
      rw [← h.1]; omega
    · split at h
      · split at h
        · rename_i hr
          have h1 := refTo_ok hr
          have h2 := ih _ _ _ _ _ h
          have h3 := (partsAt_gt s _ _ _ _ _ _ h).1
          have := hw ps pl
          simp at h2
          omega
        · simp at h
      · split at h
        · rename_i hr
          have h1 := charTo_ok hr
          have h2 := ih _ _ _ _ _ h
          have h3 := (partsAt_gt s _ _ _ _ _ _ h).1
          simp at h2
          omega
        · simp at h
theorem tokAt_few {s : ByteArray} {j k' : Nat} {t : TokL} (h : tokAt s j = some (t, k')) : t.parts.length ≤ s.size := by
  unfold tokAt at h
  split at h
  · split at h
    · simp at h; rw [← h.1]; simp
    · simp at h
  · split at h
    · split at h
      · simp at h; rw [← h.1]; simp
      · simp at h
    · split at h
      · split at h
        · rename_i ps k1 hp
          simp at h
          have h1 := partsAt_few s _ _ _ _ _ _ hp
          have h2 := partsAt_gt s _ _ _ _ _ _ hp
          rw [← h.1]; simp at h1 ⊢; omega
        · simp at h
      · split at h
        · simp at h; rw [← h.1]; simp
        · simp at h
theorem lexAt_few (s : ByteArray) : ∀ n j ts r, lexAt s n j ts = some r → (∀ t ∈ ts, t.parts.length ≤ s.size) → ts.length ≤ j → j ≤ s.size → r.length ≤ s.size ∧ ∀ t ∈ r, t.parts.length ≤ s.size := by
  intro n
  induction n with
  | zero => intro j ts r h hp hl hj; simp [lexAt] at h; subst h; exact ⟨by omega, hp⟩
  | succ n ih =>
    intro j ts r h hp hl hj
    rw [lexAt] at h
    split at h
    · rename_i hlt
      split at h
      · rename_i t k' ht
        have h1 := tokAt_gt hlt ht
        have h2 := skipTo_ok h1.2
        refine ih _ _ _ h ?_ (by simp; omega) h2.2
        intro x hx
        simp at hx
        rcases hx with hx | rfl
        · exact hp x hx
        · exact tokAt_few ht
      · simp at h
    · simp at h; subst h; exact ⟨by omega, hp⟩
theorem lexT_few (s : ByteArray) : (lexT s).length ≤ 9000 ∧ ∀ t ∈ lexT s, t.parts.length ≤ 9000 := by
  unfold lexT
  split
  · simp
  · rename_i h6
    split
    · rename_i ts ht
      have h1 := skipTo_ok (s := s) (Nat.zero_le _)
      have h2 := lexAt_few s _ _ _ _ ht (by simp) (Nat.zero_le _) h1.2
      refine ⟨by simp; omega, fun t hx => ?_⟩
      simp at hx
      rcases hx with hx | rfl
      · have := h2.2 t hx; omega
      · simp
    · simp
end Go.Proofs.YtkbbhgipajhbnaaDoor
