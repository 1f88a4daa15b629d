/- Parse and Expr always tell something: the tokens of a text are good ones. -/
import Derived.Test.YtkbbhgipajhbnaaDoorParTc
import Derived.Test.YtkbbhgipajhbnaaDoorLexU0
namespace Go.Proofs.YtkbbhgipajhbnaaDoor
open Go.RowKit
set_option linter.unusedVariables false
set_option linter.unusedSimpArgs false
theorem withPl_size {K : Nat} {ps : List PartL} {pl : List UInt8} (h1 : pl.length ≤ K) (h2 : ∀ p ∈ ps, p.2.size ≤ K) : ∀ p ∈ withPl ps pl, p.2.size ≤ K := by
  unfold withPl
  split
  · exact h2
  · intro p hp
    simp only [List.mem_append, List.mem_singleton] at hp
    rcases hp with hp | rfl
    · exact h2 p hp
    · exact h1
theorem partsL_size {K : Nat} : ∀ n l c ps pl r c', partsL n l c ps pl = some (r, c') → pl.length + l.length ≤ K → (∀ p ∈ ps, p.2.size ≤ K) → ∀ p ∈ r, p.2.size ≤ K := by
  intro n
  induction n with
  | zero => intro l c ps pl r c' h; cases h
  | succ n ih =>
    intro l c ps pl r c' h hk hps
    rw [partsL] at h
    split at h
    · cases h
      exact withPl_size (by omega) hps
    · split at h
      · split at h
        · refine ih _ _ _ _ _ _ h (by rw [List.length_drop]; simp; omega) ?_
          intro p hp
          simp only [List.mem_append, List.mem_singleton] at hp
          rcases hp with hp | rfl
          · exact withPl_size (by omega) hps p hp
          · show ((l.drop 2).take (refMidL (l.drop 2))).length ≤ K
            rw [List.length_take, List.length_drop]
            omega
        · cases h
      · split at h
        · rename_i hc
          have hl : 0 < l.length := by
            cases l with
            | nil => exact absurd hc (by decide)
            | cons a r => simp
          have hn : 1 ≤ charNL l := by unfold charNL; split <;> omega
          refine ih _ _ _ _ _ _ h ?_ hps
          rw [List.length_append, List.length_drop]
          simp
          omega
        · cases h
theorem tokL_size {K : Nat} {l : List UInt8} {t : TokL} {c : Nat} (h : tokL l = some (t, c)) (hl : l.length ≤ K) : t.text.size ≤ K ∧ ∀ p ∈ t.parts, p.2.size ≤ K := by
  have tk : ∀ m : Nat, (⟨(l.take m).toArray⟩ : ByteArray).size ≤ K := fun m => by
    show (l.take m).length ≤ K
    rw [List.length_take]; omega
  unfold tokL at h
  split at h
  · split at h
    · cases h; exact ⟨tk _, fun p hp => by cases hp⟩
    · cases h
  · split at h
    · split at h
      · cases h; exact ⟨Nat.zero_le _, fun p hp => by cases hp⟩
      · cases h
    · split at h
      · cases hp : partsL (l.length + 1) (l.drop 1) 1 [] [] with
        | none => rw [hp] at h; cases h
        | some q =>
          rw [hp] at h
          cases h
          exact ⟨Nat.zero_le _, partsL_size (K := K) _ _ _ _ _ _ _ (show partsL (l.length + 1) (l.drop 1) 1 [] [] = some (q.1, q.2) from hp) (by rw [List.length_drop]; simp; omega) (fun p hp => by cases hp)⟩
      · split at h
        · cases h; exact ⟨tk _, fun p hp => by cases hp⟩
        · cases h
theorem lexL_size {K : Nat} : ∀ n l k ts, lexL n l k = some ts → l.length ≤ K → ∀ t ∈ ts, t.text.size ≤ K ∧ ∀ p ∈ t.parts, p.2.size ≤ K := by
  intro n
  induction n with
  | zero => intro l k ts h _ t ht; cases h; cases ht
  | succ n ih =>
    intro l k ts h hl t ht
    rw [lexL] at h
    split at h
    · cases h; cases ht
    · simp only [Option.bind_eq_some_iff, Option.map_eq_some_iff, Prod.exists] at h
      obtain ⟨t0, c, h1, ts2, h2, rfl⟩ := h
      rcases List.mem_cons.1 ht with rfl | ht
      · exact ⟨(tokL_size h1 hl).1, (tokL_size h1 hl).2⟩
      · exact ih _ _ _ h2 (by rw [List.length_drop, List.length_drop]; omega) t ht
theorem lexT_good {s : ByteArray} (hs : s.size ≤ 6000) (he : lexE s = 0) : GoodT (lexT s) := by
  have hl := (lexT_few s).1
  have hz : s.data.toList.length = s.size := rfl
  rw [lexE_all hs] at he
  cases hq : lexAll s.data.toList with
  | none => rw [hq] at he; cases he
  | some ts =>
    have hT : lexT s = ts ++ [⟨0, ⟨#[]⟩, 0, [], s.size⟩] := by rw [lexT_all hs, hq]
    have hsz : ∀ t ∈ ts, t.text.size ≤ 10000 ∧ ∀ p ∈ t.parts, p.2.size ≤ 10000 := fun t ht => by
      have := lexL_size (K := 10000) _ _ _ _ hq (by rw [List.length_drop]; omega) t ht
      exact this
    refine ⟨by rw [hT]; simp, by omega, ⟨⟨0, ⟨#[]⟩, 0, [], s.size⟩, ?_, rfl, rfl⟩, fun t ht => ?_, fun t ht => ?_, (lexT_few s).2⟩
    · rw [hT, List.length_append]
      simp
    · rw [hT] at ht
      rcases List.mem_append.1 ht with ht | ht
      · exact (hsz t ht).1
      · simp at ht; subst ht; exact Nat.zero_le _
    · rw [hT] at ht
      rcases List.mem_append.1 ht with ht | ht
      · exact (hsz t ht).2
      · simp at ht; subst ht; intro p hp; cases hp
def evN : Nat := 180100
theorem lexT_len (s : ByteArray) : 20 * (lexT s).length + 13 ≤ evN ∧ (lexT s).length < 9001 := by
  have := (lexT_few s).1
  unfold evN
  omega
theorem lexE_six (s : ByteArray) : 0 ≤ lexE s ∧ lexE s ≤ 6 := by
  unfold lexE; split
  · omega
  · split <;> omega
theorem lexE_big {s : ByteArray} (hs : ¬ s.size ≤ 6000) : lexE s ≠ 0 := by
  unfold lexE
  rw [if_pos (by omega)]
  decide
theorem expr_total (s : ByteArray) : ∃ er ns, exprM evN s = some (er, ns) ∧ 0 ≤ er ∧ er ≤ 6 ∧ (er ≠ 0 → ns = []) := by
  unfold exprM
  by_cases he : lexE s = 0
  · rw [if_pos he]
    by_cases hs : s.size ≤ 6000
    · exact exprT_ex (lexT_good hs he) evN (lexT_len s).1
    · exact absurd he (lexE_big hs)
  · rw [if_neg he]
    exact ⟨_, _, rfl, (lexE_six s).1, (lexE_six s).2, fun _ => rfl⟩
theorem parse_total (s : ByteArray) : ∃ er bs, parseM evN 9001 s = some (er, bs) ∧ 0 ≤ er ∧ er ≤ 6 ∧ (er ≠ 0 → bs = []) := by
  unfold parseM
  by_cases he : lexE s = 0
  · rw [if_pos he]
    by_cases hs : s.size ≤ 6000
    · exact parseT_ex (lexT_good hs he) evN 9001 (lexT_len s).1 (lexT_len s).2
    · exact absurd he (lexE_big hs)
  · rw [if_neg he]
    exact ⟨_, _, rfl, (lexE_six s).1, (lexE_six s).2, fun _ => rfl⟩
end Go.Proofs.YtkbbhgipajhbnaaDoor
