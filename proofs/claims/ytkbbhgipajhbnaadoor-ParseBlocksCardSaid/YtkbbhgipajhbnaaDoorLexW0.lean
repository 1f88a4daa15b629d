/- The decimal text of a number. -/
import Derived.Test.YtkbbhgipajhbnaaDoorLexA
namespace Go.Proofs.YtkbbhgipajhbnaaDoor
open Go.RowKit
set_option linter.unusedVariables false
set_option linter.unusedSimpArgs false

def dch (n : Nat) : UInt8 := UInt8.ofNat (48 + n % 10)
theorem dch_val (n : Nat) : (dch n).toNat = 48 + n % 10 := by
  unfold dch; rw [UInt8.toNat_ofNat']; omega
/-- The digits of u, ahead of those that are there. -/
def decAt : Nat → Nat → List UInt8 → List UInt8
  | 0, u, acc => dch u :: acc
  | n + 1, u, acc => if 10 ≤ u then decAt n (u / 10) (dch u :: acc) else dch u :: acc
theorem decAt_more : ∀ n m u acc, u ≤ n → u ≤ m → decAt n u acc = decAt m u acc := by
  intro n
  induction n with
  | zero => intro m u acc h1 h2; obtain rfl : u = 0 := by omega
            cases m <;> simp [decAt]
  | succ n ih =>
    intro m u acc h1 h2
    cases m with
    | zero => obtain rfl : u = 0 := by omega
              simp [decAt]
    | succ m =>
      simp only [decAt]
      split
      · exact ih m _ _ (by omega) (by omega)
      · rfl
def decTo (u : Nat) (acc : List UInt8) : List UInt8 := decAt u u acc
theorem decTo_step {u : Nat} {acc : List UInt8} (h : 10 ≤ u) : decTo u acc = decTo (u / 10) (dch u :: acc) := by
  unfold decTo
  rw [decAt_more u (u + 1) u acc (Nat.le_refl _) (Nat.le_succ _), decAt, if_pos h]
  exact decAt_more _ _ _ _ (by omega) (Nat.le_refl _)
theorem decTo_end {u : Nat} {acc : List UInt8} (h : ¬ 10 ≤ u) : decTo u acc = dch u :: acc := by
  unfold decTo
  rw [decAt_more u (u + 1) u acc (Nat.le_refl _) (Nat.le_succ _), decAt, if_neg h]
/-- The text of a number. -/
def decB (u : Nat) : ByteArray := ⟨(decTo u []).toArray⟩
theorem dec_len : ∀ n u acc, u < 10 ^ n → 0 < n → (decTo u acc).length ≤ n + acc.length := by
  intro n
  induction n with
  | zero => intro u acc h h0; omega
  | succ n ih =>
    intro u acc h _
    by_cases h10 : 10 ≤ u
    · rw [decTo_step h10]
      have h1 : u / 10 < 10 ^ n := by rw [Nat.pow_succ] at h; omega
      by_cases hn : n = 0
      · subst hn; simp at h1; omega
      · have := ih (u / 10) (dch u :: acc) h1 (by omega)
        simp at this; omega
    · rw [decTo_end h10]; simp; omega
theorem decB_size (u : Nat) (hu : u ≤ 9223372036854775807) : (decB u).size ≤ 19 := by
  have := dec_len 19 u [] (by have : (10:Nat) ^ 19 = 10000000000000000000 := by decide
                              omega) (by omega)
  simpa [decB, ByteArray.size] using this
end Go.Proofs.YtkbbhgipajhbnaaDoor
