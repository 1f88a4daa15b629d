/- What the reader of expressions tells does not hang on the tokens' places. -/
import Derived.Test.YtkbbhgipajhbnaaDoorParE0
import Derived.Test.YtkbbhgipajhbnaaDoorLexL
namespace Go.Proofs.YtkbbhgipajhbnaaDoor
open Go.RowKit
set_option linter.unusedVariables false
set_option linter.unusedSimpArgs false
def bareT (T : List TokL) : List TokL := T.map (·.put 0)
theorem bare_get (T : List TokL) (i : Nat) : (bareT T)[i]? = (T[i]?).map (·.put 0) := by simp [bareT]
theorem bare_len (T : List TokL) : (bareT T).length = T.length := by simp [bareT]
section
variable (T : List TokL)
theorem takeS_bare (sg : ByteArray) (S : PS) : takeS (bareT T) sg S = takeS T sg S := by
  unfold takeS; rw [bare_get, bare_len]; cases T[S.at_]? <;> rfl
theorem failS_bare (e : Int) (S : PS) : failS (bareT T) e S = failS T e S := by unfold failS; rw [bare_len]
theorem needS_bare (sg : ByteArray) (S : PS) : needS (bareT T) sg S = needS T sg S := by unfold needS; rw [takeS_bare]; simp only [failS_bare]
theorem nameS_bare (S : PS) : nameS (bareT T) S = nameS T S := by
  unfold nameS; rw [bare_get, bare_len]; simp only [failS_bare]; cases T[S.at_]? <;> rfl
theorem endS_bare (S : PS) : endS (bareT T) S = endS T S := by
  unfold endS; rw [bare_get]; simp only [failS_bare]; cases T[S.at_]? <;> rfl
theorem openS_bare (sg : ByteArray) (S : PS) : openS (bareT T) sg S = openS T sg S := by unfold openS; rw [takeS_bare]; simp only [failS_bare]
theorem closeS_bare (sg : ByteArray) (S : PS) : closeS (bareT T) sg S = closeS T sg S := by unfold closeS; rw [needS_bare]
theorem stepS_bare (S : PS) : stepS (bareT T) S = stepS T S := by unfold stepS; rw [bare_len]
theorem bare_bind {β : Type} (i : Nat) (f : TokL → Option β) (h : ∀ t : TokL, f (t.put 0) = f t) : ((bareT T)[i]?).bind f = (T[i]?).bind f := by
  rw [bare_get]; cases T[i]? with
  | none => rfl
  | some t => exact h t
theorem ev_bare : ∀ n c S, ev (bareT T) n c S = ev T n c S := by
  intro n
  induction n with
  | zero => intro c S; cases c <;> rfl
  | succ n ih =>
    intro c S
    cases c <;> simp only [ev, ih, takeS_bare, needS_bare, nameS_bare, openS_bare, closeS_bare, stepS_bare, failS_bare]
    all_goals (exact bare_bind T _ _ (fun t => rfl))
end
theorem treeE_bare (N : Nat) (T : List TokL) (S : PS) : treeE N (bareT T) S = treeE N T S := by unfold treeE; rw [ev_bare]
theorem exprT_bare (N : Nat) (T : List TokL) : exprT N (bareT T) = exprT N T := by
  unfold exprT; rw [bare_len, treeE_bare]; simp only [endS_bare]
theorem exprT_alike (N : Nat) {T U : List TokL} (h : bareT T = bareT U) : exprT N T = exprT N U := by rw [← exprT_bare, h, exprT_bare]
end Go.Proofs.YtkbbhgipajhbnaaDoor
