/- A text into which gaps have been put has the same tokens, at other places. -/
import Derived.Test.YtkbbhgipajhbnaaDoorLexGb
namespace Go.Proofs.YtkbbhgipajhbnaaDoor
open Go.RowKit
set_option linter.unusedVariables false
set_option linter.unusedSimpArgs false
/-- The text from a token on, with gaps ahead of the tokens, and at the end. -/
def insL : Nat → List UInt8 → List (List UInt8) → List UInt8
  | 0, _, gs => gs.headD []
  | n + 1, l, gs => gs.headD [] ++ (match tokL l with
    | none => []
    | some (t, c) => l.take (c + gapN (l.drop c)) ++ insL n (l.drop (c + gapN (l.drop c))) gs.tail)
theorem tok_nil : tokL [] = none := by kernel_rfl
theorem ins_nil (n : Nat) (gs : List (List UInt8)) : insL n [] gs = gs.headD [] := by
  cases n with
  | zero => rfl
  | succ n => rw [insL, tok_nil]; simp
theorem head_ok {gs : List (List UInt8)} (h : ∀ g ∈ gs, g ∈ gs5) : gs.headD [] ∈ gs5 := by
  cases gs with
  | nil => simp [gs5]
  | cons g r => exact h g (by simp)
theorem tail_ok {gs : List (List UInt8)} (h : ∀ g ∈ gs, g ∈ gs5) : ∀ g ∈ gs.tail, g ∈ gs5 := fun g hg => h g (List.mem_of_mem_tail hg)
theorem gap_self {g : List UInt8} (hg : g ∈ gs5) : gapN g = g.length := by
  have := gap_app hg []
  rw [List.append_nil, gap_nil] at this
  exact this
theorem tok_hd {l : List UInt8} {q : TokL × Nat} (h : tokL l = some q) : hd l ≠ 32 ∧ hd l ≠ 10 ∧ hd l ≠ 35 ∧ l ≠ [] := by
  have hne : l ≠ [] := fun e => by rw [e, tok_nil] at h; cases h
  have key : ∀ x : Int, startsB x = false → digitB x = false → x ≠ 34 → oneB x = false → x ≠ 61 → x ≠ 33 → x ≠ 60 → x ≠ 62 → x ≠ 38 → x ≠ 124 → hd l ≠ x := by
    intro x h1 h2 h3 h4 h5 h6 h7 h8 h9 h10 e
    unfold tokL at h
    rw [e, if_neg (by rw [h1]; simp), if_neg (by rw [h2]; simp), if_neg h3, h4] at h
    have h11 : ¬ twoL l = true := fun hc => by
      have := ((twoL_hd l).1 hc).2
      rw [e] at this
      omega
    have h12 : twoL l = false := by simpa using h11
    rw [h12] at h
    simp at h
  exact ⟨key 32 (by decide) (by decide) (by decide) (by decide) (by decide) (by decide) (by decide) (by decide) (by decide) (by decide), key 10 (by decide) (by decide) (by decide) (by decide) (by decide) (by decide) (by decide) (by decide) (by decide) (by decide), key 35 (by decide) (by decide) (by decide) (by decide) (by decide) (by decide) (by decide) (by decide) (by decide) (by decide), hne⟩
theorem gap_zero {l : List UInt8} (h1 : hd l ≠ 32) (h2 : hd l ≠ 10) (h3 : hd l ≠ 35) : gapN l = 0 := by
  cases l with
  | nil => rfl
  | cons c r =>
    refine gap_stop c r ?_ ?_
    · rintro (rfl | rfl)
      · exact h1 rfl
      · exact h2 rfl
    · rintro rfl; exact h3 rfl
theorem hd_gap {g : List UInt8} (hg : g ∈ gs5) (hne : g ≠ []) (y : List UInt8) : hd (g ++ y) = 32 ∨ hd (g ++ y) = 10 ∨ hd (g ++ y) = 35 := by
  simp only [gs5, List.mem_cons, List.mem_nil_iff, or_false] at hg
  rcases hg with rfl | rfl | rfl | rfl | rfl
  · exact absurd rfl hne
  · exact .inl rfl
  · exact .inr (.inl rfl)
  · exact .inl rfl
  · exact .inr (.inr rfl)
theorem lexL_nil (n k : Nat) : lexL n [] k = some [] := by cases n <;> rfl
theorem ins_lex : ∀ (n : Nat) (l : List UInt8) (k : Nat) (ts : List TokL) (gs : List (List UInt8)), l.length ≤ n → lexL n l k = some ts → (∀ g ∈ gs, g ∈ gs5) →
    ∀ N k', (insL n l gs).length ≤ N → ∃ ts', lexL N ((insL n l gs).drop (gapN (insL n l gs))) k' = some ts' ∧ ts'.map (·.put 0) = ts.map (·.put 0) := by
  have base : ∀ (n : Nat) (gs : List (List UInt8)), (∀ g ∈ gs, g ∈ gs5) → (insL n [] gs).drop (gapN (insL n [] gs)) = [] := fun n gs h => by
    rw [ins_nil, gap_self (head_ok h), List.drop_length]
  intro n
  induction n with
  | zero =>
    intro l k ts gs hl h hg N k' hN
    have : l = [] := List.eq_nil_of_length_eq_zero (by omega)
    subst this
    rw [lexL_nil] at h
    simp at h
    subst h
    exact ⟨[], by rw [base 0 gs hg, lexL_nil], rfl⟩
  | succ n ih =>
    intro l k ts gs hl h hg N k' hN
    by_cases hne : l = []
    · subst hne
      rw [lexL_nil] at h
      simp at h
      subst h
      exact ⟨[], by rw [base (n + 1) gs hg, lexL_nil], rfl⟩
    · rw [lexL, if_neg hne] at h
      cases ht : tokL l with
      | none => rw [ht] at h; simp at h
      | some q =>
        obtain ⟨t, c⟩ := q
        rw [ht] at h
        simp only [Option.bind_some, Option.map_eq_some_iff] at h
        obtain ⟨ts2, h2, rfl⟩ := h
        obtain ⟨hc0, hcl, hal⟩ := tok_alike ht
        have hgl := gap_le _ (l.drop c) (Nat.le_refl _)
        have hdl : (l.drop c).length = l.length - c := List.length_drop
        have hI : insL (n + 1) l gs = gs.headD [] ++ (l.take (c + gapN (l.drop c)) ++ insL n (l.drop (c + gapN (l.drop c))) gs.tail) := by
          rw [insL, ht]
        rw [← List.drop_drop] at hI
        generalize hgN : gapN (l.drop c) = g at *
        generalize hl' : (l.drop c).drop g = l' at *
        have hl'len : l'.length = l.length - c - g := by rw [← hl', List.length_drop, hdl]
        generalize hIe : insL n l' gs.tail = I at *
        have hX : l.take (c + g) ++ I = l.take c ++ ((l.drop c).take g ++ I) := by
          rw [← List.append_assoc, List.take_add]
        have hhd := tok_hd ht
        have hXhd : hd (l.take c ++ ((l.drop c).take g ++ I)) = hd l := hd_take hc0 hne
        have hXg : gapN (l.take c ++ ((l.drop c).take g ++ I)) = 0 := gap_zero (by rw [hXhd]; exact hhd.1) (by rw [hXhd]; exact hhd.2.1) (by rw [hXhd]; exact hhd.2.2.1)
        have hIg : gapN (insL (n + 1) l gs) = (gs.headD []).length := by
          rw [hI, hX, gap_app (head_ok hg), hXg]; omega
        have hdrop : (insL (n + 1) l gs).drop (gapN (insL (n + 1) l gs)) = l.take c ++ ((l.drop c).take g ++ I) := by
          rw [hIg, hI, hX, List.drop_left]
        have hlenI : (insL (n + 1) l gs).length = (gs.headD []).length + (c + (g + I.length)) := by
          rw [hI, hX]
          simp only [List.length_append, List.length_take, hdl]
          omega
        -- what is behind the token begins alike
        have hAl : Alike (l.drop c) ((l.drop c).take g ++ I) := by
          by_cases hg0 : 0 < g
          · exact .inl (hd_take hg0 (fun e => by rw [e] at hgl; simp at hgl; omega))
          · have hg0 : g = 0 := by omega
            subst hg0
            rw [List.take_zero, List.nil_append]
            rw [List.drop_zero] at hl'
            subst hl'
            by_cases hgap : gs.tail.headD [] = []
            · by_cases hl0 : l.drop c = []
              · have hI0 : I = [] := by rw [← hIe, hl0, ins_nil, hgap]
                rw [hI0]; exact .inr (.inl rfl)
              · cases n with
                | zero => exfalso; exact hl0 (List.eq_nil_of_length_eq_zero (by omega))
                | succ m =>
                  rw [lexL, if_neg hl0] at h2
                  cases ht2 : tokL (l.drop c) with
                  | none => rw [ht2] at h2; simp at h2
                  | some q2 =>
                    obtain ⟨t2, c2⟩ := q2
                    have hc2 := (tok_alike ht2).1
                    left
                    rw [← hIe, insL, hgap, ht2, List.nil_append]
                    exact hd_take (by omega) hl0
            · have hh : gs.tail.headD [] ∈ gs5 := head_ok (tail_ok hg)
              have hIx : ∃ y, I = gs.tail.headD [] ++ y := by
                rw [← hIe]
                cases n with
                | zero => exact ⟨[], by rw [insL, List.append_nil]⟩
                | succ m => exact ⟨_, rfl⟩
              obtain ⟨y, hy⟩ := hIx
              rw [hy]
              rcases hd_gap hh hgap y with e | e | e
              · exact .inr (.inr (.inl e))
              · exact .inr (.inr (.inr (.inl e)))
              · exact .inr (.inr (.inr (.inr e)))
        have htok := hal _ hAl
        obtain ⟨M, rfl⟩ : ∃ M, N = M + 1 := ⟨N - 1, by omega⟩
        have hXne : l.take c ++ ((l.drop c).take g ++ I) ≠ [] := fun e => by
          have := congrArg List.length e
          simp only [List.length_append, List.length_take, List.length_nil] at this
          omega
        have hXd : (l.take c ++ ((l.drop c).take g ++ I)).drop c = (l.drop c).take g ++ I := by
          have hlt : (l.take c).length = c := by rw [List.length_take]; omega
          rw [List.drop_append_of_le_length (by omega), List.drop_eq_nil_of_le (by omega), List.nil_append]
        by_cases hl0 : l' = []
        · -- nothing is left
          have hgall : g = (l.drop c).length := by rw [hl0] at hl'len; simp at hl'len; omega
          have hI0 : I = gs.tail.headD [] := by rw [← hIe, hl0, ins_nil]
          have htk : (l.drop c).take g = l.drop c := by rw [hgall, List.take_length]
          have hend := gap_end _ (l.drop c) (Nat.le_refl _) (by rw [hgN]; exact hgall) _ (head_ok (tail_ok hg))
          rw [hl0, lexL_nil] at h2
          simp at h2
          subst h2
          refine ⟨[t.put k'], ?_, rfl⟩
          rw [hdrop, lexL, if_neg hXne, htok]
          simp only [Option.bind_some]
          rw [hXd, htk, hI0, hend, List.drop_length, lexL_nil]
          rfl
        · have hglt : gapN (l.drop c) < (l.drop c).length := by
            rw [hgN, hdl]
            have : 0 < l'.length := List.length_pos_iff.2 hl0
            omega
          have hgt := gap_take _ (l.drop c) (Nat.le_refl _) hglt I
          rw [hgN] at hgt
          obtain ⟨ts', i1, i2⟩ := ih l' (k + c + g) ts2 gs.tail (by omega) h2 (tail_ok hg) M (k' + c + (g + gapN I)) (by rw [hIe]; omega)
          rw [hIe] at i1
          refine ⟨t.put k' :: ts', ?_, by simp only [List.map_cons, i2]; rfl⟩
          rw [hdrop, lexL, if_neg hXne, htok]
          simp only [Option.bind_some]
          have hd2 : ((l.drop c).take g ++ I).drop (g + gapN I) = I.drop (gapN I) := by
            have hlt : ((l.drop c).take g).length = g := by rw [List.length_take]; omega
            have e : ((l.drop c).take g ++ I).drop g = I := by rw [List.drop_append_of_le_length (by omega), List.drop_eq_nil_of_le (by omega), List.nil_append]
            rw [← List.drop_drop, e]
          rw [hXd, hgt, hd2, i1]
          rfl
/-- The whole text with gaps. -/
def gapText (L : List UInt8) (gs : List (List UInt8)) : List UInt8 := L.take (gapN L) ++ insL L.length (L.drop (gapN L)) gs
theorem gap_lex {L : List UInt8} {ts : List TokL} {gs : List (List UInt8)} (h : lexAll L = some ts) (hg : ∀ g ∈ gs, g ∈ gs5) : ∃ ts', lexAll (gapText L gs) = some ts' ∧ ts'.map (·.put 0) = ts.map (·.put 0) := by
  have hle := gap_le _ L (Nat.le_refl _)
  have hdl : (L.drop (gapN L)).length = L.length - gapN L := List.length_drop
  unfold lexAll at h
  by_cases he : gapN L = L.length
  · have hd : L.drop (gapN L) = [] := by rw [he, List.drop_length]
    rw [hd, lexL_nil] at h
    simp at h
    subst h
    have hT : gapText L gs = L ++ gs.headD [] := by
      unfold gapText
      rw [hd, ins_nil, he, List.take_length]
    refine ⟨[], ?_, rfl⟩
    unfold lexAll
    rw [hT, gap_end _ L (Nat.le_refl _) he _ (head_ok hg), List.drop_length, lexL_nil]
  · have hlt : gapN L < L.length := by omega
    have hT := gap_take _ L (Nat.le_refl _) hlt (insL L.length (L.drop (gapN L)) gs)
    have hlen : (gapText L gs).length = gapN L + (insL L.length (L.drop (gapN L)) gs).length := by
      unfold gapText
      simp only [List.length_append, List.length_take]
      omega
    obtain ⟨ts', i1, i2⟩ := ins_lex L.length (L.drop (gapN L)) (gapN L) ts gs (by omega) h hg (gapText L gs).length (gapN L + gapN (insL L.length (L.drop (gapN L)) gs)) (by omega)
    refine ⟨ts', ?_, i2⟩
    unfold lexAll
    have e : gapN (gapText L gs) = gapN L + gapN (insL L.length (L.drop (gapN L)) gs) := hT
    have e2 : (gapText L gs).drop (gapN L + gapN (insL L.length (L.drop (gapN L)) gs)) = (insL L.length (L.drop (gapN L)) gs).drop (gapN (insL L.length (L.drop (gapN L)) gs)) := by
      have hlt2 : (L.take (gapN L)).length = gapN L := by rw [List.length_take]; omega
      have e3 : (gapText L gs).drop (gapN L) = insL L.length (L.drop (gapN L)) gs := by
        unfold gapText
        rw [List.drop_append_of_le_length (by omega), List.drop_eq_nil_of_le (by omega), List.nil_append]
      rw [← List.drop_drop, e3]
    rw [e, e2]
    exact i1
end Go.Proofs.YtkbbhgipajhbnaaDoor
