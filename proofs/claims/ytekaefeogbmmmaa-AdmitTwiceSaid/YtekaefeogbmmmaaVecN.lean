/- Rows of amounts that a call itself makes. -/
import Derived.Test.YtekaefeogbmmmaaVecC
namespace Go.Proofs.Ytekaefeogbmmmaa
open Go.RowKit
set_option linter.unusedVariables false
set_option linter.unusedSimpArgs false
theorem vrow_at (l : List V3) : ∀ (i r : Nat) (u : V3), l[i]? = some u → r < 3 → (l.flatMap V3.cells).toArray[0 + i * 3 + r]? = u.cells[r]? := by
  simp only [Nat.zero_add, List.getElem?_toArray]
  induction l with
  | nil => intro i r u hu; simp at hu
  | cons x l ih =>
    intro i r u hu hr
    cases i with
    | zero =>
      simp at hu; subst hu
      rw [List.flatMap_cons, Nat.zero_mul, Nat.zero_add, List.getElem?_append_left (by simpa [V3.cells] using hr)]
    | succ i =>
      have h := ih i r u (by simpa using hu) hr
      rw [List.flatMap_cons, List.getElem?_append_right (by simp [V3.cells]; omega), ← h]
      congr 1
      simp [V3.cells]; omega
theorem vrow_new {w : World} {g : Nat} (l : List V3) (h : w.heap[g]? = some (.cells (l.flatMap V3.cells).toArray 24 (0, 0))) : VRow w l (.slice (some ⟨g, 0, none⟩) l.length l.length) := by
  refine ⟨_, _, rfl, Nat.le_refl _, fun i u hu => ⟨g, 0, rfl, ?_, ?_, ?_⟩⟩
  · rw [cell_of_row _ _ _ _ _ _ h]
    exact (vrow_at l i 0 u hu (by omega)).trans rfl
  · rw [cell_of_row _ _ _ _ _ _ h]
    exact (vrow_at l i 1 u hu (by omega)).trans rfl
  · rw [cell_of_row _ _ _ _ _ _ h]
    exact (vrow_at l i 2 u hu (by omega)).trans rfl
theorem two_sum (x y : V3) : sumV [x, y] = addV x y := by unfold sumV; simp [addV, z3]
end Go.Proofs.Ytekaefeogbmmmaa
