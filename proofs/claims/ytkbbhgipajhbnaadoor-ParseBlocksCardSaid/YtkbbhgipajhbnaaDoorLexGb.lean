/- Gaps put ahead of tokens change nothing but places. -/
import Derived.Test.YtkbbhgipajhbnaaDoorLexGa
namespace Go.Proofs.YtkbbhgipajhbnaaDoor
open Go.RowKit
set_option linter.unusedVariables false
set_option linter.unusedSimpArgs false
theorem skipN_any : ∀ (n m : Nat) (l : List UInt8), l.length ≤ n → l.length ≤ m → skipN n l = skipN m l := by
  intro n
  induction n with
  | zero =>
    intro m l h1 h2
    have : l = [] := List.eq_nil_of_length_eq_zero (by omega)
    subst this
    cases m <;> rfl
  | succ n ih =>
    intro m l h1 h2
    match l with
    | [] => cases m <;> rfl
    | c :: r =>
      match m with
      | 0 => simp at h2
      | m + 1 =>
        simp only [List.length_cons] at h1 h2
        rw [skipN, skipN]
        split
        · rw [ih m r (by omega) (by omega)]
        · split
          · rename_i h35
            have hp : 0 < runLen inLineB (c :: r) := by
              subst h35
              unfold runLen
              rw [List.takeWhile_cons]
              simp [inLineB]
            rw [ih m _ (by rw [List.length_drop, List.length_cons]; omega) (by rw [List.length_drop, List.length_cons]; omega)]
          · rfl
theorem gap_nil : gapN [] = 0 := rfl
theorem gap_blank (c : UInt8) (r : List UInt8) (h : c = 32 ∨ c = 10) : gapN (c :: r) = gapN r + 1 := by
  unfold gapN
  rw [List.length_cons, skipN, if_pos h]
theorem line_pos (r : List UInt8) : 0 < runLen inLineB (35 :: r) := by
  unfold runLen
  rw [List.takeWhile_cons]
  simp [inLineB]
theorem gap_line (r : List UInt8) : gapN (35 :: r) = gapN ((35 :: r).drop (runLen inLineB (35 :: r))) + runLen inLineB (35 :: r) := by
  have hp := line_pos r
  unfold gapN
  rw [List.length_cons, skipN, if_neg (by decide), if_pos rfl]
  congr 1
  exact skipN_any _ _ _ (by rw [List.length_drop, List.length_cons]; omega) (Nat.le_refl _)
theorem gap_stop (c : UInt8) (r : List UInt8) (h1 : ¬ (c = 32 ∨ c = 10)) (h2 : ¬ c = 35) : gapN (c :: r) = 0 := by
  unfold gapN
  rw [List.length_cons, skipN, if_neg h1, if_neg h2]
def gs5 : List (List UInt8) := [[], [32], [10], [32, 35, 32, 120, 32, 34, 32, 36, 123, 32, 10], [35, 10]]
theorem gap_app {g : List UInt8} (hg : g ∈ gs5) (x : List UInt8) : gapN (g ++ x) = g.length + gapN x := by
  simp only [gs5, List.mem_cons, List.mem_nil_iff, or_false] at hg
  rcases hg with rfl | rfl | rfl | rfl | rfl
  · simp
  · show gapN (32 :: x) = _
    rw [gap_blank _ _ (.inl rfl)]; simp; omega
  · show gapN (10 :: x) = _
    rw [gap_blank _ _ (.inr rfl)]; simp; omega
  · show gapN (32 :: 35 :: ([32, 120, 32, 34, 32, 36, 123, 32, 10] ++ x)) = _
    have e : runLen inLineB (35 :: ([32, 120, 32, 34, 32, 36, 123, 32, 10] ++ x)) = 9 := by
      unfold runLen; simp [List.takeWhile_cons, inLineB]
    rw [gap_blank _ _ (.inl rfl), gap_line, e]
    show gapN (10 :: x) + 9 + 1 = _
    rw [gap_blank _ _ (.inr rfl)]; simp; omega
  · show gapN (35 :: 10 :: x) = _
    have e : runLen inLineB (35 :: 10 :: x) = 1 := by
      unfold runLen; simp [List.takeWhile_cons, inLineB]
    rw [gap_line, e]
    show gapN (10 :: x) + 1 = _
    rw [gap_blank _ _ (.inr rfl)]; simp; omega
theorem gap_le : ∀ (n : Nat) (l : List UInt8), l.length ≤ n → gapN l ≤ l.length := by
  intro n
  induction n with
  | zero => intro l h; have : l = [] := List.eq_nil_of_length_eq_zero (by omega); subst this; exact Nat.le_refl _
  | succ n ih =>
    intro l h
    match l with
    | [] => exact Nat.le_refl _
    | c :: r =>
      simp only [List.length_cons] at h
      by_cases h1 : c = 32 ∨ c = 10
      · rw [gap_blank c r h1, List.length_cons]; have := ih r (by omega); omega
      · by_cases h2 : c = 35
        · subst h2
          have hp := line_pos r
          have hl := runLen_le inLineB (35 :: r)
          rw [gap_line]
          have := ih ((35 :: r).drop (runLen inLineB (35 :: r))) (by rw [List.length_drop, List.length_cons]; omega)
          rw [List.length_drop] at this
          omega
        · rw [gap_stop c r h1 h2]; omega
/-- Blanks and remarks that end ahead of something go on so, whatever comes behind. -/
theorem gap_take : ∀ (n : Nat) (l : List UInt8), l.length ≤ n → gapN l < l.length → ∀ z, gapN (l.take (gapN l) ++ z) = gapN l + gapN z := by
  intro n
  induction n with
  | zero => intro l h hl; omega
  | succ n ih =>
    intro l h hl z
    match l with
    | [] => simp at hl
    | c :: r =>
      simp only [List.length_cons] at h
      by_cases h1 : c = 32 ∨ c = 10
      · have e := gap_blank c r h1
        rw [e] at hl ⊢
        rw [List.length_cons] at hl
        rw [List.take_succ_cons, List.cons_append, gap_blank _ _ h1, ih r (by omega) (by omega) z]
        omega
      · by_cases h2 : c = 35
        · subst h2
          have hp := line_pos r
          have hle := runLen_le inLineB (35 :: r)
          have e := gap_line r
          generalize hR : runLen inLineB (35 :: r) = R at *
          have hd1 : ((35 :: r).drop R).length = (35 :: r).length - R := List.length_drop
          have hlt : gapN ((35 :: r).drop R) < ((35 :: r).drop R).length := by omega
          have i := ih ((35 :: r).drop R) (by rw [hd1, List.length_cons]; omega) hlt z
          have hstop := run_stop inLineB (35 :: r)
          rw [hR] at hstop
          have hne : (35 :: r).drop R ≠ [] := fun e => by rw [e] at hlt; simp at hlt
          have h10 : inLineB (hd ((35 :: r).drop R)) = false := by
            rcases hstop with h | h
            · exact absurd h hne
            · exact h
          have hgpos : 0 < gapN ((35 :: r).drop R) := by
            cases hx : (35 :: r).drop R with
            | nil => exact absurd hx hne
            | cons c' r' =>
              rw [hx] at h10
              have : c' = 10 := by
                have h : ((c'.toNat : Int) != 10) = false := h10
                simp at h
                exact UInt8.toNat_inj.1 (by rw [show (10 : UInt8).toNat = 10 from rfl]; omega)
              rw [gap_blank c' r' (.inr this)]; omega
          have et : (35 :: r).take (gapN ((35 :: r).drop R) + R) ++ z = (35 :: r).take R ++ (((35 :: r).drop R).take (gapN ((35 :: r).drop R)) ++ z) := by
            rw [← List.append_assoc, Nat.add_comm, List.take_add]
          rw [e, et]
          have hY : runLen inLineB ((35 :: r).take R ++ (((35 :: r).drop R).take (gapN ((35 :: r).drop R)) ++ z)) = R := by
            have ha := hd_take (l := (35 :: r).drop R) (y := z) hgpos hne
            have := run_app inLineB (35 :: r) (((35 :: r).drop R).take (gapN ((35 :: r).drop R)) ++ z) (fun _ => by rw [ha]; exact h10) (.inr (by rw [ha]; exact h10))
            rw [hR] at this
            exact this
          have hcons : (35 :: r).take R ++ (((35 :: r).drop R).take (gapN ((35 :: r).drop R)) ++ z) = 35 :: (r.take (R - 1) ++ (((35 :: r).drop R).take (gapN ((35 :: r).drop R)) ++ z)) := by
            obtain ⟨m, rfl⟩ : ∃ m, R = m + 1 := ⟨R - 1, by omega⟩
            rfl
          rw [hcons] at hY ⊢
          rw [gap_line, hY, ← hcons]
          have hdrop : ((35 :: r).take R ++ (((35 :: r).drop R).take (gapN ((35 :: r).drop R)) ++ z)).drop R = ((35 :: r).drop R).take (gapN ((35 :: r).drop R)) ++ z := by
            rw [List.drop_append_of_le_length (by rw [List.length_take]; omega)]
            simp
          rw [hdrop, i]
          omega
        · rw [gap_stop c r h1 h2, List.take_zero, List.nil_append]; omega
/-- Blanks and remarks up to the end, and a gap behind them. -/
theorem gap_end : ∀ (n : Nat) (l : List UInt8), l.length ≤ n → gapN l = l.length → ∀ g, g ∈ gs5 → gapN (l ++ g) = (l ++ g).length := by
  have hg0 : ∀ g, g ∈ gs5 → gapN g = g.length := fun g hg => by
    have := gap_app hg []
    rw [List.append_nil, gap_nil] at this
    exact this
  intro n
  induction n with
  | zero =>
    intro l h hl g hg
    have : l = [] := List.eq_nil_of_length_eq_zero (by omega)
    subst this
    exact hg0 g hg
  | succ n ih =>
    intro l h hl g hg
    match l with
    | [] => exact hg0 g hg
    | c :: r =>
      simp only [List.length_cons] at h hl
      by_cases h1 : c = 32 ∨ c = 10
      · have e := gap_blank c r h1
        rw [List.cons_append, gap_blank c _ h1, ih r (by omega) (by omega) g hg, List.length_cons]
      · by_cases h2 : c = 35
        · subst h2
          have hp := line_pos r
          have hle := runLen_le inLineB (35 :: r)
          have e := gap_line r
          generalize hR : runLen inLineB (35 :: r) = R at *
          have hd1 : ((35 :: r).drop R).length = (35 :: r).length - R := List.length_drop
          by_cases hend : (35 :: r).drop R = []
          · -- the remark goes on to the end: what is behind may lie within it
            have hR2 : R = (35 :: r).length := by rw [hend] at hd1; simp at hd1 hle ⊢; omega
            have hall : ∀ x ∈ (35 :: r), inLineB (x.toNat : Int) = true := by
              have : (35 :: r).takeWhile (fun c => inLineB (c.toNat : Int)) = 35 :: r := by
                have hs : ((35 :: r).takeWhile (fun c => inLineB (c.toNat : Int))).length = (35 :: r).length := by
                  have : runLen inLineB (35 :: r) = (35 :: r).length := by rw [hR, hR2]
                  exact this
                exact (List.takeWhile_prefix _).eq_of_length hs
              intro x hx
              rw [← this] at hx
              exact List.all_eq_true.1 List.all_takeWhile x hx
            have hrun : ∀ z, runLen inLineB ((35 :: r) ++ z) = (35 :: r).length + runLen inLineB z := by
              intro z
              unfold runLen
              rw [List.takeWhile_append_of_pos hall, List.length_append]
            have hgl : ∀ z, gapN ((35 :: r) ++ z) = gapN (z.drop (runLen inLineB z)) + ((35 :: r).length + runLen inLineB z) := by
              intro z
              rw [List.cons_append, gap_line, ← List.cons_append, hrun]
              congr 2
              rw [List.drop_append]
              simp
            rw [hgl, List.length_append]
            simp only [gs5, List.mem_cons, List.mem_nil_iff, or_false] at hg
            rcases hg with rfl | rfl | rfl | rfl | rfl
            · simp [runLen, gap_nil]
            · simp [runLen, inLineB, gap_nil] <;> omega
            · have e10 : gapN [10] = 1 := rfl
              simp [runLen, inLineB, e10] <;> omega
            · have e10 : gapN [10] = 1 := rfl
              simp [runLen, inLineB, List.takeWhile_cons, e10]; omega
            · have e10 : gapN [10] = 1 := rfl
              simp [runLen, inLineB, List.takeWhile_cons, e10]; omega
          · have hstop := run_stop inLineB (35 :: r)
            rw [hR] at hstop
            have h10 : inLineB (hd ((35 :: r).drop R)) = false := by
              rcases hstop with h | h
              · exact absurd h hend
              · exact h
            have hlen : gapN ((35 :: r).drop R) = ((35 :: r).drop R).length := by rw [hd1, List.length_cons]; rw [List.length_cons] at hle; omega
            have i := ih ((35 :: r).drop R) (by rw [hd1, List.length_cons]; omega) hlen g hg
            have et : (35 :: r) ++ g = (35 :: r).take R ++ ((35 :: r).drop R ++ g) := by rw [← List.append_assoc, List.take_append_drop]
            have hY : runLen inLineB ((35 :: r).take R ++ ((35 :: r).drop R ++ g)) = R := by
              have ha : hd ((35 :: r).drop R ++ g) = hd ((35 :: r).drop R) := by
                cases hx : (35 :: r).drop R with
                | nil => exact absurd hx hend
                | cons c' r' => rfl
              have := run_app inLineB (35 :: r) ((35 :: r).drop R ++ g) (fun _ => by rw [ha]; exact h10) (.inr (by rw [ha]; exact h10))
              rw [hR] at this
              exact this
            rw [← et] at hY
            rw [List.cons_append] at hY ⊢
            rw [gap_line, hY, ← List.cons_append]
            have hdrop : ((35 :: r) ++ g).drop R = (35 :: r).drop R ++ g := List.drop_append_of_le_length hle
            rw [hdrop, i, List.length_append, List.length_append, hd1]
            omega
        · rw [gap_stop c r h1 h2] at hl; omega
end Go.Proofs.YtkbbhgipajhbnaaDoor
