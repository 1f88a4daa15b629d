/- The document's reader of references: reference is refB, refTo. -/
import Derived.Test.YtedcdibabdamcaaDoorLexM
namespace Go.Proofs.YtedcdibabdamcaaDoor
open Go.RowKit
set_option linter.unusedVariables false
set_option linter.unusedSimpArgs false

theorem size_extract' {s : ByteArray} {k b : Nat} (hb : b ≤ s.size) : (s.extract k b).size = b - k := by simp [ByteArray.size_extract]; omega
theorem pk_extract {s : ByteArray} {k b m : Nat} (hb : b ≤ s.size) (hm : k + m < b) : pk (s.extract k b) m = pk s (k + m) := by
  have h1 : m < (s.extract k b).size := by rw [size_extract' hb]; omega
  have h2 : k + m < s.size := by omega
  rw [pk_in h1, pk_in h2]
  congr 2
  exact ByteArray.getElem_extract h1
theorem runTo_extract {p : Int → Bool} {s : ByteArray} {k b : Nat} (hb : b ≤ s.size) : ∀ n m, b - (k + m) = n → k + m ≤ b → runTo p (s.extract k b) m = min (runTo p s (k + m)) b - k := by
  intro n
  induction n with
  | zero =>
    intro m hn hm
    have h1 : ¬ m < (s.extract k b).size := by rw [size_extract' hb]; omega
    rw [runTo_stop (fun h => absurd h h1)]
    have := le_runTo p s (k + m)
    omega
  | succ n ih =>
    intro m hn hm
    have h1 : m < (s.extract k b).size := by rw [size_extract' hb]; omega
    have hp := pk_extract hb (show k + m < b by omega)
    cases hc : p (pk s (k + m))
    · rw [runTo_stop (p := p) (s := s) (fun _ => hc), runTo_stop (p := p) (fun _ => by rw [hp]; exact hc)]
      omega
    · rw [runTo_step (p := p) h1 (by rw [hp]; exact hc), runTo_step (p := p) (s := s) (by omega) hc, ih (m + 1) (by omega) (by omega)]
      rfl
theorem nameTo_extract {s : ByteArray} {k b : Nat} (hb : b ≤ s.size) (hk : k < b) (hs : startsB (pk s k) = true) : nameTo (s.extract k b) 0 = min (nameTo s k) b - k := by
  have hp := pk_extract (m := 0) hb (by omega)
  unfold nameTo
  rw [hp, Nat.add_zero, if_pos hs, if_pos hs, runTo_extract hb _ 0 rfl (by omega), Nat.add_zero]
theorem rname_extract {s : ByteArray} {k : Nat} (hs : startsB (pk s k) = true) (hk : k < s.size) : rnameB (s.extract k (nameTo s k)) = decide (nameTo s k ≤ k + 24) := by
  have h1 := nameTo_gt hk hs
  have h2 := nameTo_le (Nat.le_of_lt hk)
  unfold rnameB
  rw [size_extract' h2, nameTo_extract h2 h1 hs, Nat.min_self]
  rw [decide_eq_true (show nameTo s k - k ≠ 0 by omega), decide_eq_true (show nameTo s k - k = nameTo s k - k from rfl)]
  simp only [Bool.true_and, Bool.and_true]
  rw [decide_eq_decide]; omega
theorem extract_extract' {s : ByteArray} {k b i j : Nat} (hb : b ≤ s.size) (hj : k + j ≤ b) : (s.extract k b).extract i j = s.extract (k + i) (k + j) := by
  apply ByteArray.ext
  simp only [ByteArray.data_extract, Array.extract_extract]
  congr 1
  omega
theorem starts_not46 {s : ByteArray} {a : Nat} (h : pk s a = 46) : inNameB (pk s a) = false := by rw [h]; decide
theorem nameTo_ne {s : ByteArray} {k : Nat} (h : nameTo s k ≠ k) : startsB (pk s k) = true := by
  cases hs : startsB (pk s k) with
  | true => rfl
  | false => exact absurd (by simp [nameTo, hs]) h
theorem nameOk_eq {s : ByteArray} {k : Nat} (h : startsB (pk s k) = true) : nameOk s k = decide (nameTo s k ≤ k + 24) := by simp [nameOk, nameTo, h]
/-- What reference asks, in the text's own order. -/
def rrefB (s : ByteArray) (k : Nat) : Bool :=
  !(nameTo s k == k) && tkB s (nameTo s k) 46 && !(nameTo s (nameTo s k + 1) == nameTo s k + 1) && tkB s (nameTo s (nameTo s k + 1)) 125 && rdotB (s.extract k (nameTo s (nameTo s k + 1)))
theorem rref_same {s : ByteArray} {k : Nat} (hk : k ≤ s.size) : rrefB s k = refB s k := by
  unfold rrefB refB refOk refMid
  have hk2 : startsB (pk s k) = true → k < s.size := fun h => by
    apply pk_pos_lt
    have : pk s k ≠ 0 := by intro e; rw [e] at h; exact absurd h (by decide)
    have := pk_lo s k
    omega
  by_cases h1 : nameTo s k = k
  · have e : nameOk s k = false := by
      cases hs : startsB (pk s k) with
      | false => simp [nameOk, hs]
      | true => have := nameTo_gt (hk2 hs) hs; omega
    simp [h1, e]
  · have hs := nameTo_ne h1
    have hkl := hk2 hs
    have g1 := nameTo_gt hkl hs
    cases h2 : tkB s (nameTo s k) 46
    · simp
    · have ha := tkB_lt h2
      have hpa : pk s (nameTo s k) = 46 := by simp [tkB] at h2; exact h2.2
      by_cases h3 : nameTo s (nameTo s k + 1) = nameTo s k + 1
      · have e : nameOk s (nameTo s k + 1) = false := by
          cases hs2 : startsB (pk s (nameTo s k + 1)) with
          | false => simp [nameOk, hs2]
          | true =>
            have hl : nameTo s k + 1 < s.size := by
              apply pk_pos_lt
              have : pk s (nameTo s k + 1) ≠ 0 := by intro e; rw [e] at hs2; exact absurd hs2 (by decide)
              have := pk_lo s (nameTo s k + 1)
              omega
            have := nameTo_gt hl hs2; omega
        simp [h3, e]
      · have hs2 := nameTo_ne h3
        have hl2 : nameTo s k + 1 < s.size := by
          apply pk_pos_lt
          have : pk s (nameTo s k + 1) ≠ 0 := by intro e; rw [e] at hs2; exact absurd hs2 (by decide)
          have := pk_lo s (nameTo s k + 1)
          omega
        have g2 := nameTo_gt hl2 hs2
        have l2 := nameTo_le (Nat.le_of_lt hl2)
        have hdot : rdotB (s.extract k (nameTo s (nameTo s k + 1))) = (nameOk s k && nameOk s (nameTo s k + 1)) := by
          rw [nameOk_eq hs, nameOk_eq hs2]
          unfold rdotB
          have en : nameTo (s.extract k (nameTo s (nameTo s k + 1))) 0 = nameTo s k - k := by
            rw [nameTo_extract l2 (by omega) hs]; omega
          rw [en, size_extract' l2, pk_extract l2 (by omega), show k + (nameTo s k - k) = nameTo s k by omega, hpa,
            extract_extract' l2 (by omega), extract_extract' l2 (by omega), show k + 0 = k from rfl, show k + (nameTo s k - k) = nameTo s k by omega,
            show k + (nameTo s k - k + 1) = nameTo s k + 1 by omega, show k + (nameTo s (nameTo s k + 1) - k) = nameTo s (nameTo s k + 1) by omega,
            rname_extract hs hkl, rname_extract hs2 hl2]
          rw [decide_eq_true (show 0 < nameTo s k - k by omega), decide_eq_true (show nameTo s k - k < nameTo s (nameTo s k + 1) - k by omega)]
          rfl
        rw [hdot]
        simp only [beq_eq_false_iff_ne.2 h1, beq_eq_false_iff_ne.2 h3, Bool.not_false, Bool.true_and]
        cases nameOk s k <;> cases nameOk s (nameTo s k + 1) <;> cases ht : tkB s (nameTo s (nameTo s k + 1)) 125 <;> simp [ht]
theorem rref_to {s : ByteArray} {k : Nat} (h : refB s k = true) : refTo s k = nameTo s (nameTo s k + 1) + 1 ∧ refMid s k = nameTo s (nameTo s k + 1) := by
  unfold refB at h
  rw [Bool.and_eq_true] at h
  have h1 := h.1
  unfold refOk at h1
  simp only [Bool.and_eq_true] at h1
  have em : refMid s k = nameTo s (nameTo s k + 1) := by simp [refMid, h1.1.1, h1.1.2]
  refine ⟨?_, em⟩
  have e : refTo s k = tkTo s (refMid s k) 125 := by simp [refTo, h.1]
  rw [e, tkTo_yes h.2, em]
end Go.Proofs.YtedcdibabdamcaaDoor
