/- The law of order: the tokens of its text. -/
import Derived.Test.YtkbbhgipajhbnaaGreatDoorParOa
import Derived.Test.YtkbbhgipajhbnaaGreatDoorLexGb
import Derived.Test.YtkbbhgipajhbnaaGreatDoorLexW0
namespace Go.Proofs.YtkbbhgipajhbnaaGreatDoor
open Go.RowKit
set_option linter.unusedVariables false
set_option linter.unusedSimpArgs false
def restB : List Nat → Nat → List UInt8
  | [], _ => []
  | o :: os, j => 32 :: ((oSign o).data.toList ++ 32 :: (decTo j [] ++ restB os (j + 1)))
def ordB (ops : List Nat) : List UInt8 := 48 :: restB ops 1
def digOk (j : Nat) : Bool := match tokL (decTo j []) with
  | some (t, c) => t.kind == 1 && t.text.data.toList.isEmpty && t.num == (j : Int) && t.parts.isEmpty && t.at_ == 0 && c == (decTo j []).length && gapN (decTo j []) == 0
  | none => false
theorem dig_all : (List.range 22).all digOk = true := by kernel_rfl
theorem byte_empty {x : ByteArray} (h : x.data.toList = []) : x = ⟨#[]⟩ := by apply ByteArray.ext; apply Array.ext'; simpa using h
theorem dig_tok (j : Nat) (hj : j < 22) : tokL (decTo j []) = some (numTok j, (decTo j []).length) ∧ gapN (decTo j []) = 0 := by
  have h := List.all_eq_true.1 dig_all j (List.mem_range.2 hj)
  unfold digOk at h
  split at h
  · rename_i t c ht
    simp only [Bool.and_eq_true, beq_iff_eq, List.isEmpty_iff] at h
    obtain ⟨⟨⟨⟨⟨⟨h1, h2⟩, h3⟩, h4⟩, h5⟩, h6⟩, h7⟩ := h
    refine ⟨?_, h7⟩
    rw [ht, h6]
    obtain ⟨a, b, d, e, f⟩ := t
    simp only at h1 h2 h3 h4 h5
    rw [h1, byte_empty h2, h3, h4, h5]
    rfl
  · simp at h
def signTokOk (o : Nat) : Bool := match tokL (oSign o).data.toList with
  | some (t, c) => t.kind == 4 && t.text.data.toList == (oSign o).data.toList && t.num == 0 && t.parts.isEmpty && t.at_ == 0 && c == (oSign o).data.toList.length && gapN (oSign o).data.toList == 0
  | none => false
theorem sign_all : (List.range 7).all signTokOk = true := by kernel_rfl
theorem sign_tok (o : Nat) (ho : o < 7) : tokL (oSign o).data.toList = some (opTok o, (oSign o).data.toList.length) ∧ gapN (oSign o).data.toList = 0 := by
  have h := List.all_eq_true.1 sign_all o (List.mem_range.2 ho)
  unfold signTokOk at h
  split at h
  · rename_i t c ht
    simp only [Bool.and_eq_true, beq_iff_eq, List.isEmpty_iff] at h
    obtain ⟨⟨⟨⟨⟨⟨h1, h2⟩, h3⟩, h4⟩, h5⟩, h6⟩, h7⟩ := h
    refine ⟨?_, h7⟩
    rw [ht, h6]
    obtain ⟨a, b, d, e, f⟩ := t
    simp only at h1 h2 h3 h4 h5
    have hb : b = oSign o := by apply ByteArray.ext; apply Array.ext'; exact h2
    rw [h1, hb, h3, h4, h5]
    rfl
  · simp at h
/-- A token that stands by itself stands also ahead of a blank, and of nothing. -/
theorem tok_then {a : List UInt8} {t : TokL} (h : tokL a = some (t, a.length)) (g : gapN a = 0) (y : List UInt8) (hy : y = [] ∨ ∃ z, y = 32 :: z) : tokL (a ++ y) = some (t, a.length) ∧ gapN (a ++ y) = 0 ∧ a ≠ [] := by
  obtain ⟨h1, h2, h3⟩ := tok_alike h
  have e := h3 y (by
    rw [List.drop_length]
    rcases hy with rfl | ⟨z, rfl⟩
    · exact .inl rfl
    · exact .inr (.inr (.inl rfl)))
  rw [List.take_length] at e
  have hne : a ≠ [] := fun e => by rw [e] at h1; simp at h1
  refine ⟨e, ?_, hne⟩
  cases a with
  | nil => exact absurd rfl hne
  | cons c r =>
    by_cases hb : c = 32 ∨ c = 10
    · rw [gap_blank c r hb] at g; omega
    · by_cases h35 : c = 35
      · subst h35
        have := line_pos r
        rw [gap_line] at g; omega
      · exact gap_stop c (r ++ y) hb h35
theorem rest_form (ops : List Nat) (j : Nat) : restB ops j = [] ∨ ∃ z, restB ops j = 32 :: z := by
  cases ops with
  | nil => exact .inl rfl
  | cons o os => exact .inr ⟨_, rfl⟩
def restT0 : List Nat → Nat → List TokL
  | [], _ => []
  | o :: os, j => opTok o :: numTok j :: restT0 os (j + 1)
theorem rest_split : ∀ (ops : List Nat) (j : Nat), restT ops j = restT0 ops j ++ [lastTok] := by
  intro ops
  induction ops with
  | nil => intro j; rfl
  | cons o os ih => intro j; simp only [restT, restT0, ih, List.cons_append]
theorem lexL_empty (n k : Nat) : lexL n [] k = some [] := by cases n <;> rfl
theorem rest_lex : ∀ (ops : List Nat) (j n k : Nat), (∀ o ∈ ops, o < 7) → j + ops.length ≤ 22 → 2 * ops.length ≤ n → ∃ ts, lexL n ((restB ops j).drop (gapN (restB ops j))) k = some ts ∧ ts.map (·.put 0) = restT0 ops j := by
  intro ops
  induction ops with
  | nil => intro j n k _ _ _; exact ⟨[], lexL_empty _ _, rfl⟩
  | cons o os ih =>
    intro j n k h7 hj hn
    simp only [List.length_cons] at hj hn
    obtain ⟨n, rfl⟩ : ∃ m, n = m + 2 := ⟨n - 2, by omega⟩
    have ho := sign_tok o (h7 o (by simp))
    have hd := dig_tok j (by omega)
    obtain ⟨d1, d2, d3⟩ := tok_then hd.1 hd.2 (restB os (j + 1)) (rest_form _ _)
    obtain ⟨s1, s2, s3⟩ := tok_then ho.1 ho.2 (32 :: (decTo j [] ++ restB os (j + 1))) (.inr ⟨_, rfl⟩)
    generalize hR : restB os (j + 1) = R at *
    generalize hD : decTo j [] = D at *
    generalize hA : (oSign o).data.toList = A at *
    have e0 : restB (o :: os) j = 32 :: (A ++ 32 :: (D ++ R)) := by rw [restB, hR, hD, hA]
    have g0 : gapN (restB (o :: os) j) = 1 := by rw [e0, gap_blank _ _ (.inl rfl), s2]
    have g1 : gapN (32 :: (D ++ R)) = 1 := by rw [gap_blank _ _ (.inl rfl), d2]
    have n1 : A ++ 32 :: (D ++ R) ≠ [] := by simp
    have n2 : D ++ R ≠ [] := by simp [d3]
    obtain ⟨ts, t1, t2⟩ := ih (j + 1) n (k + A.length + 1 + D.length + gapN R) (fun x hx => h7 x (by simp [hx])) (by omega) (by omega)
    rw [hR] at t1
    refine ⟨(opTok o).put k :: (numTok j).put (k + A.length + 1) :: ts, ?_, by simp only [List.map_cons, t2]; rfl⟩
    rw [g0, e0]
    show lexL (n + 1 + 1) (A ++ 32 :: (D ++ R)) k = _
    rw [lexL, if_neg n1, s1]
    simp only [Option.bind_some, List.drop_left]
    rw [g1]
    show Option.map _ (lexL (n + 1) (D ++ R) _) = _
    rw [lexL, if_neg n2, d1]
    simp only [Option.bind_some, List.drop_left]
    rw [t1]
    rfl
theorem ord_bare (ops : List Nat) : bareT (ordT ops) = ordT ops := by
  unfold ordT
  have h : ∀ (ops : List Nat) (j : Nat), (restT ops j).map (·.put 0) = restT ops j := by
    intro ops
    induction ops with
    | nil => intro j; rfl
    | cons o os ih => intro j; simp only [restT, List.map_cons, ih]; rfl
  unfold bareT
  rw [List.map_cons, h]
  rfl
/-- What Expr tells of the text. -/
theorem ord_text (ops : List Nat) (h7 : ∀ o ∈ ops, o < 7) (hl : ops.length ≤ 20) (s : ByteArray) (hs : s.size ≤ 6000) (ht : s.data.toList = ordB ops) : ∃ ns, exprM 1100 s = some (0, ns) ∧ Piece ops 0 0 ops.length ns := by
  have hlen : ∀ (ops : List Nat) (j : Nat), 2 * ops.length ≤ (restB ops j).length := by
    intro ops
    induction ops with
    | nil => intro j; exact Nat.le_refl _
    | cons o os ih =>
      intro j
      have := ih (j + 1)
      simp only [restB, List.length_cons, List.length_append]
      omega
  obtain ⟨ts, t1, t2⟩ := rest_lex ops 1 (restB ops 1).length (0 + 1 + gapN (restB ops 1)) h7 (by omega) (hlen ops 1)
  have hd := dig_tok 0 (by decide)
  obtain ⟨d1, d2, d3⟩ := tok_then hd.1 hd.2 (restB ops 1) (rest_form _ _)
  have e48 : decTo 0 [] = [48] := rfl
  rw [e48] at d1 d2
  have hla : lexAll (ordB ops) = some ((numTok 0).put 0 :: ts) := by
    unfold lexAll
    show lexL _ (List.drop (gapN ([48] ++ restB ops 1)) ([48] ++ restB ops 1)) (gapN ([48] ++ restB ops 1)) = _
    rw [d2]
    show lexL ((restB ops 1).length + 1) ([48] ++ restB ops 1) 0 = _
    rw [lexL, if_neg (by simp), d1]
    simp only [Option.bind_some, List.drop_left]
    rw [show ([48] : List UInt8).length = 1 from rfl, t1]
    rfl
  obtain ⟨ns, n1, n2⟩ := ord_expr ops h7 (by omega)
  refine ⟨ns, ?_, n2⟩
  unfold exprM
  rw [lexE_all hs, lexT_all hs, ht, hla]
  simp only [if_true]
  rw [← n1]
  refine exprT_alike _ ?_
  rw [ord_bare]
  unfold bareT ordT
  rw [List.map_append, List.map_cons, t2, rest_split]
  rfl
end Go.Proofs.YtkbbhgipajhbnaaGreatDoor
