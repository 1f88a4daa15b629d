/- The tokens of a text but for their places: side by side. -/
import Derived.Test.YtkbbhgipajhbnaaDoorLexGc
namespace Go.Proofs.YtkbbhgipajhbnaaDoor
open Go.RowKit
set_option linter.unusedVariables false
set_option linter.unusedSimpArgs false
def bareL (T : List TokL) : List TokL := T.map (·.put 0)
theorem tok_pos {l : List UInt8} {t : TokL} {c : Nat} (h : tokL l = some (t, c)) : 0 < c ∧ c ≤ l.length := ⟨(tok_alike h).1, (tok_alike h).2.1⟩
theorem lexL_bare : ∀ (n m : Nat) (l : List UInt8) (k k' : Nat), l.length ≤ n → l.length ≤ m → (lexL n l k).map bareL = (lexL m l k').map bareL := by
  intro n
  induction n with
  | zero =>
    intro m l k k' h1 h2
    have : l = [] := List.eq_nil_of_length_eq_zero (by omega)
    subst this
    rw [lexL_nil, lexL_nil]
  | succ n ih =>
    intro m l k k' h1 h2
    by_cases hl : l = []
    · subst hl; rw [lexL_nil, lexL_nil]
    · have hpos : 0 < l.length := List.length_pos_iff.2 hl
      obtain ⟨m, rfl⟩ : ∃ j, m = j + 1 := ⟨m - 1, by omega⟩
      rw [lexL, lexL, if_neg hl, if_neg hl]
      cases ht : tokL l with
      | none => rfl
      | some q =>
        obtain ⟨t, c⟩ := q
        obtain ⟨h3, h4⟩ := tok_pos ht
        simp only [Option.bind_some, Option.map_map]
        have hd : ((l.drop c).drop (gapN (l.drop c))).length ≤ l.length - 1 := by rw [List.length_drop, List.length_drop]; omega
        have := ih m ((l.drop c).drop (gapN (l.drop c))) (k + c + gapN (l.drop c)) (k' + c + gapN (l.drop c)) (by omega) (by omega)
        cases h5 : lexL n ((l.drop c).drop (gapN (l.drop c))) (k + c + gapN (l.drop c)) with
        | none =>
          rw [h5] at this
          cases h6 : lexL m ((l.drop c).drop (gapN (l.drop c))) (k' + c + gapN (l.drop c)) with
          | none => rfl
          | some u => rw [h6] at this; cases this
        | some w =>
          rw [h5] at this
          cases h6 : lexL m ((l.drop c).drop (gapN (l.drop c))) (k' + c + gapN (l.drop c)) with
          | none => rw [h6] at this; cases this
          | some u =>
            rw [h6] at this
            have e : bareL w = bareL u := Option.some.inj this
            show some (bareL (t.put k :: w)) = some (bareL (t.put k' :: u))
            unfold bareL at e ⊢
            rw [List.map_cons, List.map_cons, e]
            rfl
def lexB (x : List UInt8) : Option (List TokL) := (lexAll x).map bareL
/-- From the first token on. -/
theorem lexB_from {x : List UInt8} {n k : Nat} (h : x.length ≤ n) : lexB x = (lexL n (x.drop (gapN x)) k).map bareL := by
  unfold lexB lexAll
  exact lexL_bare _ _ _ _ _ (by rw [List.length_drop]; omega) (by rw [List.length_drop]; omega)
theorem lexB_gap {x y : List UInt8} (h : x.drop (gapN x) = y.drop (gapN y)) : lexB x = lexB y := by
  rw [lexB_from (x := x) (n := x.length + y.length) (k := 0) (by omega), lexB_from (x := y) (n := x.length + y.length) (k := 0) (by omega), h]
theorem lexB_blank (c : UInt8) (y : List UInt8) (h : c = 32 ∨ c = 10) : lexB (c :: y) = lexB y := by
  refine lexB_gap ?_
  rw [gap_blank c y h, List.drop_succ_cons]
/-- A token, and what is behind it. -/
theorem lexB_step {l : List UInt8} {t : TokL} {c : Nat} (h : tokL l = some (t, c)) : lexB l = (lexB (l.drop c)).map (t.put 0 :: ·) := by
  obtain ⟨h1, h2, h3, h4⟩ := tok_hd h
  have hg : gapN l = 0 := gap_zero h1 h2 h3
  obtain ⟨c0, cl⟩ := tok_pos h
  have hpos : 0 < l.length := List.length_pos_iff.2 h4
  rw [lexB_from (x := l) (n := l.length + 1) (k := 0) (by omega), hg, List.drop_zero, lexL, if_neg h4, h]
  simp only [Option.bind_some]
  rw [lexB_from (x := l.drop c) (n := l.length) (k := 0 + c + gapN (l.drop c)) (by rw [List.length_drop]; omega)]
  cases lexL l.length ((l.drop c).drop (gapN (l.drop c))) (0 + c + gapN (l.drop c)) <;> rfl
theorem lexB_tok {a y : List UInt8} {t : TokL} (h : tokL a = some (t, a.length)) (hy : Alike [] y) : lexB (a ++ y) = (lexB y).map (t.put 0 :: ·) := by
  obtain ⟨h1, h2, h3⟩ := tok_alike h
  have e := h3 y (by rw [List.drop_length]; exact hy)
  rw [List.take_length] at e
  have := lexB_step e
  rwa [List.drop_left] at this
theorem lexB_lp (y : List UInt8) : lexB (40 :: y) = (lexB y).map ((⟨4, ⟨#[40]⟩, 0, [], 0⟩ : TokL) :: ·) := by
  have h : tokL (40 :: y) = some (⟨4, ⟨#[40]⟩, 0, [], 0⟩, 1) := by kernel_rfl
  exact lexB_step h
theorem lexB_rp (y : List UInt8) : lexB (41 :: y) = (lexB y).map ((⟨4, ⟨#[41]⟩, 0, [], 0⟩ : TokL) :: ·) := by
  have h : tokL (41 :: y) = some (⟨4, ⟨#[41]⟩, 0, [], 0⟩, 1) := by kernel_rfl
  exact lexB_step h
theorem lexB_rb (y : List UInt8) : lexB (125 :: y) = (lexB y).map ((⟨4, ⟨#[125]⟩, 0, [], 0⟩ : TokL) :: ·) := by
  have h : tokL (125 :: y) = some (⟨4, ⟨#[125]⟩, 0, [], 0⟩, 1) := by kernel_rfl
  exact lexB_step h
theorem lexB_nil : lexB [] = some [] := rfl
/-- Blanks and remarks up to the end, and a new line behind them. -/
theorem gap_end10 : ∀ (n : Nat) (l : List UInt8), l.length ≤ n → gapN l = l.length → ∀ y, gapN (l ++ 10 :: y) = l.length + gapN (10 :: y) := by
  intro n
  induction n with
  | zero =>
    intro l h hl y
    have : l = [] := List.eq_nil_of_length_eq_zero (by omega)
    subst this
    simp
  | succ n ih =>
    intro l h hl y
    match l with
    | [] => simp
    | c :: r =>
      simp only [List.length_cons] at h hl
      by_cases h1 : c = 32 ∨ c = 10
      · have e := gap_blank c r h1
        rw [List.cons_append, gap_blank c _ h1, ih r (by omega) (by omega) y, List.length_cons]
        omega
      · by_cases h2 : c = 35
        · subst h2
          have hp := line_pos r
          have hle := runLen_le inLineB (35 :: r)
          have e := gap_line r
          generalize hR : runLen inLineB (35 :: r) = R at *
          have hd1 : ((35 :: r).drop R).length = (35 :: r).length - R := List.length_drop
          by_cases hend : (35 :: r).drop R = []
          · have hR2 : R = (35 :: r).length := by rw [hend] at hd1; simp at hd1 hle ⊢; omega
            have hY : runLen inLineB ((35 :: r) ++ 10 :: y) = R := by
              have := run_app inLineB (35 :: r) (10 :: y) (fun _ => by rfl) (.inr (by rfl))
              rw [hR, hR2, List.take_length] at this
              rw [hR2]; exact this
            rw [List.cons_append] at hY ⊢
            rw [gap_line, hY, ← List.cons_append, hR2, List.drop_left]
            omega
          · have hstop := run_stop inLineB (35 :: r)
            rw [hR] at hstop
            have h10 : inLineB (hd ((35 :: r).drop R)) = false := by
              rcases hstop with h | h
              · exact absurd h hend
              · exact h
            have hlen : gapN ((35 :: r).drop R) = ((35 :: r).drop R).length := by rw [hd1, List.length_cons]; rw [List.length_cons] at hle; omega
            have i := ih ((35 :: r).drop R) (by rw [hd1, List.length_cons]; omega) hlen y
            have et : (35 :: r) ++ 10 :: y = (35 :: r).take R ++ ((35 :: r).drop R ++ 10 :: y) := by rw [← List.append_assoc, List.take_append_drop]
            have hY : runLen inLineB ((35 :: r).take R ++ ((35 :: r).drop R ++ 10 :: y)) = R := by
              have ha : hd ((35 :: r).drop R ++ 10 :: y) = hd ((35 :: r).drop R) := by
                cases hx : (35 :: r).drop R with
                | nil => exact absurd hx hend
                | cons c' r' => rfl
              have := run_app inLineB (35 :: r) ((35 :: r).drop R ++ 10 :: y) (fun _ => by rw [ha]; exact h10) (.inr (by rw [ha]; exact h10))
              rw [hR] at this
              exact this
            rw [← et] at hY
            rw [List.cons_append] at hY ⊢
            rw [gap_line, hY, ← List.cons_append]
            have hdrop : ((35 :: r) ++ 10 :: y).drop R = (35 :: r).drop R ++ 10 :: y := List.drop_append_of_le_length hle
            rw [hdrop, i, hd1]
            omega
        · rw [gap_stop c r h1 h2] at hl; omega
/-- A text, and what stands on the next line. -/
theorem lexB_app : ∀ (n : Nat) (x : List UInt8) (tx : List TokL) (y : List UInt8), x.length ≤ n → lexB x = some tx → lexB (x ++ 10 :: y) = (lexB y).map (tx ++ ·) := by
  intro n
  induction n with
  | zero =>
    intro x tx y hn h
    have : x = [] := List.eq_nil_of_length_eq_zero (by omega)
    subst this
    rw [lexB_nil] at h
    cases h
    show lexB (10 :: y) = _
    rw [lexB_blank 10 y (.inr rfl)]
    cases lexB y <;> rfl
  | succ n ih =>
    intro x tx y hn h
    by_cases he : gapN x = x.length
    · have hx : lexB x = lexB [] := lexB_gap (by rw [he, List.drop_length]; rfl)
      rw [hx, lexB_nil] at h
      cases h
      have hg := gap_end10 _ x (Nat.le_refl _) he y
      have : lexB (x ++ 10 :: y) = lexB (10 :: y) := lexB_gap (by rw [hg, ← List.drop_drop, List.drop_left])
      rw [this, lexB_blank 10 y (.inr rfl)]
      cases lexB y <;> rfl
    · have hle := gap_le _ x (Nat.le_refl _)
      have hlt : gapN x < x.length := by omega
      generalize hl : x.drop (gapN x) = l at *
      have hll : l.length = x.length - gapN x := by rw [← hl, List.length_drop]
      have hxl : lexB x = (lexL x.length l 0).map bareL := by rw [← hl]; exact lexB_from (Nat.le_refl _)
      have hne : l ≠ [] := fun e => by rw [e] at hll; simp at hll; omega
      rw [hxl] at h
      obtain ⟨j, hj⟩ : ∃ j, x.length = j + 1 := ⟨x.length - 1, by omega⟩
      rw [hj, lexL, if_neg hne] at h
      cases ht : tokL l with
      | none => rw [ht] at h; cases h
      | some q =>
        obtain ⟨t, c⟩ := q
        obtain ⟨c0, cl⟩ := tok_pos ht
        obtain ⟨-, -, hal⟩ := tok_alike ht
        obtain ⟨w1, w2, w3, -⟩ := tok_hd ht
        have hgl : gapN l = 0 := gap_zero w1 w2 w3
        have hxe : lexB x = lexB l := lexB_gap (by rw [hgl, List.drop_zero, hl])
        have hstep := lexB_step ht
        have hb : lexB l = some tx := by
          rw [← hxe, hxl, hj, lexL, if_neg hne, ht]
          rw [ht] at h
          exact h
        rw [hstep] at hb
        cases hr : lexB (l.drop c) with
        | none => rw [hr] at hb; cases hb
        | some tr =>
          rw [hr] at hb
          have htx : tx = t.put 0 :: tr := (Option.some.inj hb).symm
          have i := ih (l.drop c) tr y (by rw [List.length_drop]; omega) hr
          have ht2 : tokL (l ++ 10 :: y) = some (t, c) := by
            have := hal (l.drop c ++ 10 :: y) (by
              by_cases hd0 : l.drop c = []
              · rw [hd0]; exact .inr (.inr (.inr (.inl rfl)))
              · left
                cases hx : l.drop c with
                | nil => exact absurd hx hd0
                | cons a r => rfl)
            rwa [← List.append_assoc, List.take_append_drop] at this
          have hs2 := lexB_step ht2
          rw [List.drop_append_of_le_length cl] at hs2
          have hgx : lexB (x ++ 10 :: y) = lexB (l ++ 10 :: y) := lexB_gap (by
            have g1 := gap_take _ x (Nat.le_refl _) hlt (l ++ 10 :: y)
            have ex : x ++ 10 :: y = x.take (gapN x) ++ (l ++ 10 :: y) := by rw [← List.append_assoc, ← hl, List.take_append_drop]
            have g2 : gapN (l ++ 10 :: y) = 0 := by
              obtain ⟨v1, v2, v3, -⟩ := tok_hd ht2
              exact gap_zero v1 v2 v3
            rw [ex, g1, g2, List.drop_zero, Nat.add_zero]
            have : (x.take (gapN x)).length = gapN x := by rw [List.length_take]; omega
            rw [List.drop_append_of_le_length (by omega), List.drop_eq_nil_of_le (by omega), List.nil_append])
          rw [hgx, hs2, i, htx]
          cases lexB y <;> rfl
end Go.Proofs.YtkbbhgipajhbnaaDoor
