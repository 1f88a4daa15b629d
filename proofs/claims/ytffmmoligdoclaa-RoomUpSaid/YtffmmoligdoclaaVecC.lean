/- Package vec: what may be; the document's side. -/
import Derived.Test.YtffmmoligdoclaaVecA
import Derived.Test.YtffmmoligdoclaaMono
import Derived.Deep.LoopGhost
namespace Go.Proofs.Ytffmmoligdoclaa
open Go.RowKit
set_option linter.unusedVariables false
set_option linter.unusedSimpArgs false
section
variable (w : World)
def unitB (n : Int) : Bool := decide (0 ≤ n) && decide (n ≤ 1099511627776)
def rmayV (v : V3) : Bool := unitB v.c && unitB v.m && unitB v.p
theorem rmay_eq (v : V3) : rmayV v = mayV v := by
  unfold rmayV mayV leV unitB z3 mostV
  simp only
  rw [Bool.eq_iff_iff]
  simp only [Bool.and_eq_true, decide_eq_true_eq]
  omega
theorem runit (n : Int) : Calls Try.prog 38 #[.int .i64 n] w fun e w' => e = .returned (.bool (unitB n)) ∧ w = w' := by
  have E : Hid (unitB n = (decide (0 ≤ n) && decide (n ≤ 1099511627776))) := rfl
  by_cases h1 : 0 ≤ n
  · by_cases h2 : n ≤ 1099511627776
    all_goals
      go_enter Try.func38, Try.ntmps38
      go_wp2_with fail
      go_ret
      exact ⟨by rw [E.out]; simp; omega, rfl⟩
  · go_enter Try.func38, Try.ntmps38
    go_wp2_with fail
    go_ret
    exact ⟨by rw [E.out]; simp; omega, rfl⟩
theorem rmay_any (v : V3) : Calls Try.prog 20 #[.agg #[.int .i64 v.c, .int .i64 v.m, .int .i64 v.p]] w (Made (.bool (mayV v)) w) := by
  rw [← rmay_eq, show rmayV v = (unitB v.c && unitB v.m && unitB v.p) from rfl]
  have U1 := Lib.hid (fun W => runit W v.c)
  have U2 := Lib.hid (fun W => runit W v.m)
  have U3 := Lib.hid (fun W => runit W v.p)
  generalize unitB v.c = b1 at *
  generalize unitB v.m = b2 at *
  generalize unitB v.p = b3 at *
  cases b1
  · go_enter Try.func20, Try.ntmps20
    go_wp2_with (first | (go_at_call 38; with_reducible refine (U1.out _).mono ?_; rintro e w' ⟨rfl, rfl⟩) | (go_at_call 38; with_reducible refine (U2.out _).mono ?_; rintro e w' ⟨rfl, rfl⟩) | (go_at_call 38; with_reducible refine (U3.out _).mono ?_; rintro e w' ⟨rfl, rfl⟩))
    go_ret
    exact ⟨rfl, below_al (Below.refl _ _) _⟩
  · cases b2
    all_goals
      go_enter Try.func20, Try.ntmps20
      go_wp2_with (first | (go_at_call 38; with_reducible refine (U1.out _).mono ?_; rintro e w' ⟨rfl, rfl⟩) | (go_at_call 38; with_reducible refine (U2.out _).mono ?_; rintro e w' ⟨rfl, rfl⟩) | (go_at_call 38; with_reducible refine (U3.out _).mono ?_; rintro e w' ⟨rfl, rfl⟩))
      go_ret
      exact ⟨rfl, below_al (Below.refl _ _) _⟩
theorem rsub_any (a b : V3) (h : (subV a b).I) : Calls Try.prog 26 #[.agg #[.int .i64 a.c, .int .i64 a.m, .int .i64 a.p], .agg #[.int .i64 b.c, .int .i64 b.m, .int .i64 b.p]] w (Made (.agg #[.int .i64 (subV a b).c, .int .i64 (subV a b).m, .int .i64 (subV a b).p]) w) := by
  obtain ⟨⟨h1, h2⟩, ⟨h3, h4⟩, ⟨h5, h6⟩⟩ := h
  unfold subV at *
  simp only at h1 h2 h3 h4 h5 h6 ⊢
  go_enter Try.func26, Try.ntmps26
  go_wp2_with fail
  exact bodyPost_ret (v := .agg #[.int .i64 (a.c - b.c), .int .i64 (a.m - b.m), .int .i64 (a.p - b.p)]) (by simp [results, Try.results26, go_sem]) rfl ⟨rfl, below_al (below_al (below_al (Below.refl _ _) _) _) _⟩
theorem radd2_any (a b : V3) (h : (addV a b).I) : Calls Try.prog 23 #[.agg #[.int .i64 a.c, .int .i64 a.m, .int .i64 a.p], .agg #[.int .i64 b.c, .int .i64 b.m, .int .i64 b.p]] w (Made (.agg #[.int .i64 (addV a b).c, .int .i64 (addV a b).m, .int .i64 (addV a b).p]) w) := by
  obtain ⟨⟨h1, h2⟩, ⟨h3, h4⟩, ⟨h5, h6⟩⟩ := h
  unfold addV at *
  simp only at h1 h2 h3 h4 h5 h6 ⊢
  go_enter Try.func23, Try.ntmps23
  go_wp2_with fail
  exact bodyPost_ret (v := .agg #[.int .i64 (a.c + b.c), .int .i64 (a.m + b.m), .int .i64 (a.p + b.p)]) (by simp [results, Try.results23, go_sem]) rfl ⟨rfl, below_al (below_al (below_al (Below.refl _ _) _) _) _⟩
theorem rle_any (a b : V3) : Calls Try.prog 25 #[.agg #[.int .i64 a.c, .int .i64 a.m, .int .i64 a.p], .agg #[.int .i64 b.c, .int .i64 b.m, .int .i64 b.p]] w (Made (.bool (leV a b)) w) := by
  have E : Hid (leV a b = (decide (a.c ≤ b.c) && decide (a.m ≤ b.m) && decide (a.p ≤ b.p))) := rfl
  by_cases h1 : a.c ≤ b.c
  · by_cases h2 : a.m ≤ b.m
    · by_cases h3 : a.p ≤ b.p
      all_goals
        go_enter Try.func25, Try.ntmps25
        go_wp2_with fail
        go_ret
        exact ⟨by rw [E.out]; simp [h1, h2, h3], below_al (below_al (Below.refl _ _) _) _⟩
    · go_enter Try.func25, Try.ntmps25
      go_wp2_with fail
      go_ret
      exact ⟨by rw [E.out]; simp; omega, below_al (below_al (Below.refl _ _) _) _⟩
  · go_enter Try.func25, Try.ntmps25
    go_wp2_with fail
    go_ret
    exact ⟨by rw [E.out]; simp; omega, below_al (below_al (Below.refl _ _) _) _⟩
end
end Go.Proofs.Ytffmmoligdoclaa
