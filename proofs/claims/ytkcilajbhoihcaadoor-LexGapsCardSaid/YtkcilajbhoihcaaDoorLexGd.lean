/- The law of gaps: what its first loop has made, token by token. -/
import Derived.Test.YtkcilajbhoihcaaDoorLexGc
namespace Go.Proofs.YtkcilajbhoihcaaDoor
open Go.RowKit
set_option linter.unusedVariables false
set_option linter.unusedSimpArgs false
def endTok (s : ByteArray) : TokL := ⟨0, ⟨#[]⟩, 0, [], s.size⟩
/-- Ahead of the i-th token: t is the new text up to the last token's place, a is this token's place. -/
def GInv (s : ByteArray) (gs : List (List UInt8)) (i : Nat) (t : ByteArray) (last : Nat) : Prop :=
  ∃ n a tsR, last ≤ a ∧ a ≤ s.size ∧ (suf s a).length ≤ n ∧ lexL n (suf s a) a = some tsR ∧ (lexT s).drop i = tsR ++ [endTok s] ∧
    t.data.toList ++ ((suf s last).take (a - last) ++ insL n (suf s a) (gs.drop i)) = gapText s.data.toList gs
theorem ginv_start {s : ByteArray} {gs : List (List UInt8)} (hs : s.size ≤ 6000) (h : lexE s = 0) : GInv s gs 0 ⟨#[]⟩ 0 := by
  have h0 : suf s 0 = s.data.toList := rfl
  have hz : s.data.toList.length = s.size := rfl
  have hle := gap_le _ s.data.toList (Nat.le_refl _)
  rw [lexE_all hs] at h
  cases hL : lexAll s.data.toList with
  | none => rw [hL] at h; simp at h
  | some ts =>
    have hT := lexT_all hs
    rw [hL] at hT
    have hsuf : suf s (gapN s.data.toList) = s.data.toList.drop (gapN s.data.toList) := rfl
    refine ⟨s.data.toList.length, gapN s.data.toList, ts, Nat.zero_le _, by omega, by rw [hsuf, List.length_drop]; omega, by rw [hsuf]; exact hL, by rw [hT]; rfl, ?_⟩
    rw [h0, hsuf, Nat.sub_zero, List.drop_zero]
    show [] ++ _ = _
    rw [List.nil_append]
    rfl
theorem ginv_step {s : ByteArray} {gs : List (List UInt8)} {i : Nat} {t : ByteArray} {last : Nat} (h : GInv s gs i t last) {x : TokL} (hx : (lexT s)[i]? = some x) :
    last ≤ x.at_ ∧ x.at_ ≤ s.size ∧ ∀ t' : ByteArray, t'.data.toList = t.data.toList ++ (suf s last).take (x.at_ - last) ++ (gs.drop i).headD [] →
      (i + 1 < (lexT s).length → GInv s gs (i + 1) t' x.at_) ∧ (i + 1 = (lexT s).length → t'.data.toList = gapText s.data.toList gs ∧ x.at_ = s.size) := by
  obtain ⟨n, a, tsR, h1, h2, h3, h4, h5, h6⟩ := h
  have hx0 : ((lexT s).drop i)[0]? = some x := by rw [List.getElem?_drop]; simpa using hx
  have hlen : (lexT s).length - i = tsR.length + 1 := by
    have := congrArg List.length h5
    rw [List.length_drop, List.length_append] at this
    simpa using this
  have hsl : (suf s a).length = s.size - a := suf_len s a
  have htl : (gs.drop i).tail = gs.drop (i + 1) := by rw [List.tail_drop]
  cases tsR with
  | nil =>
    rw [h5] at hx0
    simp at hx0
    subst hx0
    have hnil : suf s a = [] := by
      cases n with
      | zero => exact List.eq_nil_of_length_eq_zero (by omega)
      | succ m =>
        by_cases hne : suf s a = []
        · exact hne
        · rw [lexL, if_neg hne] at h4
          cases ht : tokL (suf s a) with
          | none => rw [ht] at h4; simp at h4
          | some q => rw [ht] at h4; simp at h4
    have ha : a = s.size := by rw [hnil] at hsl; simp at hsl; omega
    subst ha
    refine ⟨h1, Nat.le_refl _, fun t' ht' => ⟨fun hc => by simp at hlen; omega, fun _ => ⟨?_, rfl⟩⟩⟩
    rw [← h6, ht', hnil, ins_nil, List.append_assoc]
    rfl
  | cons y tsR2 =>
    rw [h5] at hx0
    simp at hx0
    subst hx0
    have hne : suf s a ≠ [] := fun e => by rw [e, lexL_nil] at h4; simp at h4
    cases n with
    | zero => exact absurd (List.eq_nil_of_length_eq_zero (by omega)) hne
    | succ m =>
      rw [lexL, if_neg hne] at h4
      cases ht : tokL (suf s a) with
      | none => rw [ht] at h4; simp at h4
      | some q =>
        obtain ⟨t0, c⟩ := q
        rw [ht] at h4
        simp only [Option.bind_some, Option.map_eq_some_iff, List.cons.injEq] at h4
        obtain ⟨ts2, h7, rfl, rfl⟩ := h4
        obtain ⟨hc0, hcl, -⟩ := tok_alike ht
        have hg := gap_le _ ((suf s a).drop c) (Nat.le_refl _)
        rw [List.length_drop] at hg
        have e1 : suf s (a + c + gapN ((suf s a).drop c)) = ((suf s a).drop c).drop (gapN ((suf s a).drop c)) := by rw [suf_drop, suf_drop]
        refine ⟨h1, h2, fun t' ht' => ⟨fun _ => ?_, fun hc => by simp at hlen; omega⟩⟩
        refine ⟨m, a + c + gapN ((suf s a).drop c), ts2, by show a ≤ _; omega, by omega, by rw [e1, List.length_drop, List.length_drop]; omega, by rw [e1]; exact h7, ?_, ?_⟩
        · rw [← List.drop_drop, h5]; rfl
        · rw [← h6, ht', insL, ht, e1]
          show _ = t.data.toList ++ ((suf s last).take (a - last) ++ ((gs.drop i).headD [] ++ ((suf s a).take (c + gapN ((suf s a).drop c)) ++ insL m ((suf s a).drop (c + gapN ((suf s a).drop c))) (gs.drop i).tail)))
          rw [htl, ← List.drop_drop]
          have e2 : a + c + gapN ((suf s a).drop c) - (t0.put a).at_ = c + gapN ((suf s a).drop c) := by show a + c + _ - a = _; omega
          rw [e2]
          show t.data.toList ++ (suf s last).take (a - last) ++ (gs.drop i).headD [] ++ _ = _
          simp only [List.append_assoc, List.drop_drop]
          rfl
end Go.Proofs.YtkcilajbhoihcaaDoor
