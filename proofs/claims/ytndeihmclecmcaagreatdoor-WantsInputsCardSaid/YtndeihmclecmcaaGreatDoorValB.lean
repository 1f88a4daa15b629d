/- Package val: numbers. -/
import Derived.Test.YtndeihmclecmcaaGreatDoorValA
namespace Go.Proofs.YtndeihmclecmcaaGreatDoor
open Go.RowKit
set_option linter.unusedVariables false
set_option linter.unusedSimpArgs false

/-- A result within 64 bits, or the error. -/
def fitR (r : Int) : Int × Int := if -9223372036854775808 ≤ r ∧ r ≤ 9223372036854775807 then (r, 0) else (0, 8)
theorem fit_in {r : Int} (h : -9223372036854775808 ≤ r ∧ r ≤ 9223372036854775807) : fitR r = (r, 0) := if_pos h
theorem fit_out {r : Int} (h : ¬ (-9223372036854775808 ≤ r ∧ r ≤ 9223372036854775807)) : fitR r = (0, 8) := if_neg h
def I64 (a : Int) : Prop := -9223372036854775808 ≤ a ∧ a ≤ 9223372036854775807
theorem wrap_range (x : Int) : -9223372036854775808 ≤ wrap64 x ∧ wrap64 x ≤ 9223372036854775807 := by unfold wrap64; omega
theorem wrap_in {x : Int} (h : -9223372036854775808 ≤ x ∧ x ≤ 9223372036854775807) : wrap64 x = x := by unfold wrap64; omega
theorem wrap_some (x : Int) : ∃ k : Int, wrap64 x = x + k * 18446744073709551616 := ⟨-((x + 9223372036854775808) / 18446744073709551616), by unfold wrap64; omega⟩
theorem dec_eq {p q : Prop} [Decidable p] [Decidable q] (h : p ↔ q) : (decide p == decide q) = true := by
  by_cases hp : p
  · simp [hp, h.1 hp]
  · have hq : ¬ q := fun hq => hp (h.2 hq)
    simp [hp, hq]
theorem dec_ne {p q : Prop} [Decidable p] [Decidable q] (h : ¬ (p ↔ q)) : (decide p == decide q) = false := by
  by_cases hp : p
  · by_cases hq : q
    · exact absurd ⟨fun _ => hq, fun _ => hp⟩ h
    · simp [hp, hq]
  · by_cases hq : q
    · simp [hp, hq]
    · exact absurd ⟨fun x => absurd x hp, fun x => absurd x hq⟩ h
/-- The quotient of a product that may have gone round, by one of its factors. -/
theorem mul_quot {a b : Int} (ha : I64 a) (h0 : a ≠ 0) (h1 : a ≠ -1) :
    I64 ((wrap64 (a * b)).tdiv a) ∧ ((wrap64 (a * b)).tdiv a = b ↔ I64 (a * b)) := by
  have hw := wrap_range (a * b)
  obtain ⟨k, hk⟩ := wrap_some (a * b)
  have hq : ((wrap64 (a * b)).tdiv a).natAbs = (wrap64 (a * b)).natAbs / a.natAbs := Int.natAbs_tdiv _ _
  have hm : a * (wrap64 (a * b)).tdiv a + (wrap64 (a * b)).tmod a = wrap64 (a * b) := Int.mul_tdiv_add_tmod _ _
  have hr : ((wrap64 (a * b)).tmod a).natAbs < a.natAbs := by
    rw [Int.natAbs_tmod]; exact Nat.mod_lt _ (by omega)
  unfold I64 at ha ⊢
  constructor
  · by_cases h2 : a = 1
    · subst h2
      rw [Int.tdiv_one]; exact hw
    · have h3 : 2 ≤ a.natAbs := by omega
      have h4 : (wrap64 (a * b)).natAbs / a.natAbs ≤ (wrap64 (a * b)).natAbs / 2 := Nat.div_le_div_left h3 (by omega)
      omega
  · constructor
    · intro e
      rw [e] at hm
      omega
    · intro h
      rw [wrap_in h]
      exact Int.mul_tdiv_cancel_left _ h0
section
variable (w : World)
theorem vadd (a b : Int) (ha : I64 a) (hb : I64 b) : Calls Tryz.prog 195 #[.int .i64 a, .int .i64 b] w fun e w' => e = .returned (.tuple #[.int .i64 (fitR (a + b)).1, .int .i64 (fitR (a + b)).2]) ∧ w = w' := by
  unfold I64 at ha hb
  by_cases h : -9223372036854775808 ≤ a + b ∧ a + b ≤ 9223372036854775807
  · rw [fit_in h]
    have g : (decide (a + b < a) == decide (b < 0)) = true := dec_eq (by omega)
    obtain ⟨h1, h2⟩ := h
    clear ha hb
    go_enter Tryz.func195, Tryz.ntmps195
    go_wp2_with fail
    go_ret2
    exact ⟨rfl, rfl⟩
  · rw [fit_out h]
    have g : (decide (wrap64 (a + b) < a) == decide (b < 0)) = false := dec_ne (by unfold wrap64; omega)
    generalize hc : wrap64 (a + b) = c at *
    clear ha hb h
    go_enter Tryz.func195, Tryz.ntmps195
    go_wp2_with fail
    go_ret2
    exact ⟨rfl, rfl⟩
theorem vsub (a b : Int) (ha : I64 a) (hb : I64 b) : Calls Tryz.prog 153 #[.int .i64 a, .int .i64 b] w fun e w' => e = .returned (.tuple #[.int .i64 (fitR (a - b)).1, .int .i64 (fitR (a - b)).2]) ∧ w = w' := by
  unfold I64 at ha hb
  by_cases h : -9223372036854775808 ≤ a - b ∧ a - b ≤ 9223372036854775807
  · rw [fit_in h]
    have g : (decide (a < a - b) == decide (b < 0)) = true := dec_eq (by omega)
    obtain ⟨h1, h2⟩ := h
    clear ha hb
    go_enter Tryz.func153, Tryz.ntmps153
    go_wp2_with fail
    go_ret2
    exact ⟨rfl, rfl⟩
  · rw [fit_out h]
    have g : (decide (a < wrap64 (a - b)) == decide (b < 0)) = false := dec_ne (by unfold wrap64; omega)
    generalize hc : wrap64 (a - b) = c at *
    clear ha hb h
    go_enter Tryz.func153, Tryz.ntmps153
    go_wp2_with fail
    go_ret2
    exact ⟨rfl, rfl⟩
theorem vmul (a b : Int) (ha : I64 a) (hb : I64 b) : Calls Tryz.prog 196 #[.int .i64 a, .int .i64 b] w fun e w' => e = .returned (.tuple #[.int .i64 (fitR (a * b)).1, .int .i64 (fitR (a * b)).2]) ∧ w = w' := by
  by_cases h1 : a = -1
  · subst h1
    have e : (-1 : Int) * b = 0 - b := by omega
    rw [e]
    have C := Lib.hid (show ∀ c, c = 0 - b → Calls Tryz.prog 153 #[.int .i64 0, .int .i64 b] w fun e w' => e = .returned (.tuple #[.int .i64 (fitR c).1, .int .i64 (fitR c).2]) ∧ w = w' from fun c hc => by rw [hc]; exact vsub w 0 b (by unfold I64; omega) hb)
    have D := Lib.hid (C.out _ rfl)
    clear C
    clear ha hb e
    generalize fitR (0 - b) = r at *
    go_enter Tryz.func196, Tryz.ntmps196
    go_wp2_with (go_at_call 153; refine D.out.mono ?_; rintro e w' ⟨rfl, rfl⟩)
    go_ret2
    exact ⟨rfl, rfl⟩
  · have g1 : (a == -1) = false := by simpa using h1
    by_cases h0 : a = 0
    · subst h0
      have e : (0 : Int) * b = 0 := by omega
      rw [e, fit_in (by omega)]
      clear ha hb h1 e
      go_enter Tryz.func196, Tryz.ntmps196
      go_wp2_with fail
      go_ret2
      exact ⟨by simp [wrap64], rfl⟩
    · have g0 : (a != 0) = true := by simpa using h0
      obtain ⟨hq, hi⟩ := mul_quot (b := b) ha h0 h1
      have W := Lib.hid (wrap_in hq)
      by_cases h : I64 (a * b)
      · have hb2 := hi.2 h
        rw [fit_in h]
        have E := Lib.hid (wrap_in h)
        have g : (wrap64 ((wrap64 (a * b)).tdiv a) != b) = false := by rw [W.out]; simpa using hb2
        clear hi hq ha hb hb2 h1 W
        generalize hc : wrap64 (a * b) = c at *
        go_enter Tryz.func196, Tryz.ntmps196
        go_wp2_with fail
        go_ret2
        refine ⟨?_, rfl⟩
        rw [← E.out]
        have hcc : wrap64 c = c := by rw [← hc]; exact wrap_in (wrap_range _)
        first | rfl | (rw [hcc]; rfl)
      · have hb2 : ¬ (wrap64 (a * b)).tdiv a = b := fun e => h (hi.1 e)
        rw [fit_out h]
        have g : (wrap64 ((wrap64 (a * b)).tdiv a) != b) = true := by rw [W.out]; simpa using hb2
        clear hi hq ha hb hb2 h1 W h
        go_enter Tryz.func196, Tryz.ntmps196
        go_wp2_with fail
        go_ret2
        exact ⟨rfl, rfl⟩
/-- What an operation makes of two numbers. -/
def quoR (a b : Int) : Int × Int := if b = 0 then (0, 9) else fitR (a.tdiv b)
def modR (a b : Int) : Int × Int := if b = 0 then (0, 9) else (a.tmod b, 0)
def reckonR (k a b : Int) : Int × Int := if k = 19 then fitR (a + b) else if k = 20 then fitR (a - b) else if k = 21 then fitR (a * b) else if k = 22 then quoR a b else modR a b
theorem quo_in {a b : Int} (ha : I64 a) (h : ¬ (a = -9223372036854775808 ∧ b = -1)) : I64 (a.tdiv b) := by
  have hq : (a.tdiv b).natAbs = a.natAbs / b.natAbs := Int.natAbs_tdiv _ _
  have h1 : a.natAbs / b.natAbs ≤ a.natAbs := Nat.div_le_self _ _
  unfold I64 at ha ⊢
  by_cases h2 : a = -9223372036854775808
  · by_cases h3 : b = 1
    · subst h3; rw [Int.tdiv_one]; exact ha
    · by_cases h4 : b = 0
      · subst h4; simp
      · have h5 : 2 ≤ b.natAbs := by omega
        have h6 : a.natAbs / b.natAbs ≤ a.natAbs / 2 := Nat.div_le_div_left h5 (by omega)
        omega
  · omega
theorem vquo (a b : Int) (ha : I64 a) (hb : I64 b) : Calls Tryz.prog 197 #[.int .i64 a, .int .i64 b] w fun e w' => e = .returned (.tuple #[.int .i64 (quoR a b).1, .int .i64 (quoR a b).2]) ∧ w = w' := by
  by_cases h0 : b = 0
  · subst h0
    rw [show quoR a 0 = (0, 9) from if_pos rfl]
    clear ha hb
    go_enter Tryz.func197, Tryz.ntmps197
    go_wp2_with fail
    go_ret2
    exact ⟨rfl, rfl⟩
  · have g0 : (b == 0) = false := by simpa using h0
    rw [show quoR a b = fitR (a.tdiv b) from if_neg h0]
    by_cases h : a = -9223372036854775808 ∧ b = -1
    · obtain ⟨rfl, rfl⟩ := h
      rw [show fitR (Int.tdiv (-9223372036854775808) (-1)) = (0, 8) by rfl]
      clear ha hb h0 g0
      go_enter Tryz.func197, Tryz.ntmps197
      go_wp2_with fail
      go_ret2
      exact ⟨rfl, rfl⟩
    · have hi := quo_in ha h
      rw [fit_in hi]
      have E := Lib.hid (wrap_in hi)
      have E2 : wrap64 (wrap64 (a.tdiv b)) = wrap64 (a.tdiv b) := wrap_in (wrap_range _)
      by_cases h2 : a = -9223372036854775808
      · have h3 : ¬ b = -1 := fun e => h ⟨h2, e⟩
        have g1 : (a == -9223372036854775808) = true := by simpa using h2
        have g2 : (b == -1) = false := by simpa using h3
        clear hi h2 h3 h ha hb
        go_enter Tryz.func197, Tryz.ntmps197
        go_wp2_with fail
        go_ret2
        exact ⟨by rw [← E.out]; first | rfl | (rw [E2]; rfl), rfl⟩
      · have g1 : (a == -9223372036854775808) = false := by simpa using h2
        clear hi h2 h ha hb
        go_enter Tryz.func197, Tryz.ntmps197
        go_wp2_with fail
        go_ret2
        exact ⟨by rw [← E.out]; first | rfl | (rw [E2]; rfl), rfl⟩
theorem vrest (a b : Int) : Calls Tryz.prog 198 #[.int .i64 a, .int .i64 b] w fun e w' => e = .returned (.tuple #[.int .i64 (modR a b).1, .int .i64 (modR a b).2]) ∧ w = w' := by
  by_cases h0 : b = 0
  · subst h0
    rw [show modR a 0 = (0, 9) from if_pos rfl]
    go_enter Tryz.func198, Tryz.ntmps198
    go_wp2_with fail
    go_ret2
    exact ⟨rfl, rfl⟩
  · have g0 : (b == 0) = false := by simpa using h0
    rw [show modR a b = (a.tmod b, 0) from if_neg h0]
    go_enter Tryz.func198, Tryz.ntmps198
    go_wp2_with fail
    go_ret2
    exact ⟨rfl, rfl⟩
theorem vreckon (k a b : Int) (hk : 19 ≤ k ∧ k ≤ 23) (ha : I64 a) (hb : I64 b) : Calls Tryz.prog 157 #[.int .i64 k, .int .i64 a, .int .i64 b] w fun e w' => e = .returned (.tuple #[.int .i64 (reckonR k a b).1, .int .i64 (reckonR k a b).2]) ∧ w = w' := by
  have hk2 : k = 19 ∨ k = 20 ∨ k = 21 ∨ k = 22 ∨ k = 23 := by omega
  clear hk
  rcases hk2 with rfl | rfl | rfl | rfl | rfl
  · have C := Lib.hid (vadd w a b ha hb)
    clear ha hb
    go_enter Tryz.func157, Tryz.ntmps157
    go_wp2_with (go_at_call 195; refine C.out.mono ?_; rintro e w' ⟨rfl, rfl⟩)
    go_ret2
    exact ⟨rfl, rfl⟩
  · have C := Lib.hid (vsub w a b ha hb)
    clear ha hb
    go_enter Tryz.func157, Tryz.ntmps157
    go_wp2_with (go_at_call 153; refine C.out.mono ?_; rintro e w' ⟨rfl, rfl⟩)
    go_ret2
    exact ⟨rfl, rfl⟩
  · have C := Lib.hid (vmul w a b ha hb)
    clear ha hb
    go_enter Tryz.func157, Tryz.ntmps157
    go_wp2_with (go_at_call 196; refine C.out.mono ?_; rintro e w' ⟨rfl, rfl⟩)
    go_ret2
    exact ⟨rfl, rfl⟩
  · have C := Lib.hid (vquo w a b ha hb)
    clear ha hb
    go_enter Tryz.func157, Tryz.ntmps157
    go_wp2_with (go_at_call 197; refine C.out.mono ?_; rintro e w' ⟨rfl, rfl⟩)
    go_ret2
    exact ⟨rfl, rfl⟩
  · have C := Lib.hid (vrest w a b)
    clear ha hb
    go_enter Tryz.func157, Tryz.ntmps157
    go_wp2_with (go_at_call 198; refine C.out.mono ?_; rintro e w' ⟨rfl, rfl⟩)
    go_ret2
    exact ⟨rfl, rfl⟩
end
end Go.Proofs.YtndeihmclecmcaaGreatDoor
