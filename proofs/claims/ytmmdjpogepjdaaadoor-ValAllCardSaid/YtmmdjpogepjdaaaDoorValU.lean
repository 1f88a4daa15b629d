/- Package val: clone at any depth; List; Index of a list at a number. -/
import Derived.Test.YtmmdjpogepjdaaaDoorValS
namespace Go.Proofs.YtmmdjpogepjdaaaDoor
open Go.RowKit
set_option linter.unusedVariables false
set_option linter.unusedSimpArgs false

theorem vclone : ∀ D, CloneOf D := by
  intro D
  induction D with
  | zero => exact vclone_step 0 (fun h => absurd h (Nat.lt_irrefl _))
  | succ D ih => exact vclone_step (D + 1) (fun _ => ih)
/-- What a call tells that answers a value in memory of its own. -/
def Gives (D : Nat) (k n : Int) (s : ByteArray) (l : List VL) (w : World) (e : Ending) (w' : World) : Prop :=
  ∃ lv, e = .returned (.tuple #[.agg #[.int .i64 k, .int .i64 n, .string s, lv], .int .i64 0]) ∧ RowIn w' (fun g => w.heap.size ≤ g) D l lv ∧ Below w.heap.size w w'
theorem set4_in {w : World} {P : Nat → Prop} {D g : Nat} {l : List VL} {lv : Value} (h : RowIn w P D l lv) (hg : ¬ P g) (a b c d : Value) :
    RowIn ((((w.setCell ⟨g, 0, none⟩ a).setCell ⟨g, 1, none⟩ b).setCell ⟨g, 2, none⟩ c).setCell ⟨g, 3, none⟩ d) P D l lv := by
  refine RowIn.keep (fun _ h => h) (fun b o z hb hz => ?_) h
  have hne : ∀ k, (⟨g, k, none⟩ : Addr) ≠ ⟨b, o, none⟩ := fun k e => by injection e with e1 e2; rw [e1] at hg; exact hg hb
  rw [World.cell?_setCell_other _ _ _ _ (hne _), World.cell?_setCell_other _ _ _ _ (hne _), World.cell?_setCell_other _ _ _ _ (hne _), World.cell?_setCell_other _ _ _ _ (hne _)]
  exact hz
end Go.Proofs.YtmmdjpogepjdaaaDoor
