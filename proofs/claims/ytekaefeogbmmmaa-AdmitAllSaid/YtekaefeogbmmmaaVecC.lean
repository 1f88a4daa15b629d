/- Package vec: what may be; the document's side. -/
import Derived.Test.YtekaefeogbmmmaaVecA
import Derived.Test.YtekaefeogbmmmaaMono
import Derived.Deep.LoopGhost
namespace Go.Proofs.Ytekaefeogbmmmaa
open Go.RowKit
set_option linter.unusedVariables false
set_option linter.unusedSimpArgs false
section
variable (w : World)
set_option maxHeartbeats 4000000 in
set_option maxRecDepth 20000 in
theorem vmay_any (v : V3) : Calls Try.prog 37 #[.agg #[.int .i64 v.c, .int .i64 v.m, .int .i64 v.p]] w (Made (.bool (mayV v)) w) := by
  have L1 := Lib.hid (show ∀ W, Calls Try.prog 30 #[.agg #[.int .i64 0, .int .i64 0, .int .i64 0], .agg #[.int .i64 v.c, .int .i64 v.m, .int .i64 v.p]] W (Made (.bool (leV z3 v)) W) from fun W => vle_any W z3 v)
  have L2 := Lib.hid (show ∀ W, Calls Try.prog 30 #[.agg #[.int .i64 v.c, .int .i64 v.m, .int .i64 v.p], .agg #[.int .i64 1099511627776, .int .i64 1099511627776, .int .i64 1099511627776]] W (Made (.bool (leV v mostV)) W) from fun W => vle_any W v mostV)
  have L3 := Lib.hid (show ∀ W, Calls Try.prog 43 #[] W (Made (.agg #[.int .i64 1099511627776, .int .i64 1099511627776, .int .i64 1099511627776]) W) from fun W => vmost_any W)
  rw [show mayV v = (leV z3 v && leV v mostV) from rfl]
  generalize leV z3 v = b1 at *
  generalize leV v mostV = b2 at *
  go_enter Try.func37, Try.ntmps37
  go_wp2_with fail
  have B0 := Lib.hid (below_al (Below.refl w.heap.size w) (.cells #[.int .i64 v.c, .int .i64 v.m, .int .i64 v.p] 24))
  obtain ⟨q0, q1, q2, -⟩ := (CBlk.new w v).cells
  cases b1
  all_goals
    refine wp_region_mono (by kernel_rfl) (by kernel_rfl) ?_
    simp only [List.map_cons, List.map_nil]
    repeat (first
      | (apply wpM_is
         · (intro us W hW hg K hK
            clear hg
            have c0 := hold hW q0
            have c1 := hold hW q1
            have c2 := hold hW q2
            simp only [fillA]
            go_simp
            first
            | exact hK _ (Below.refl _ _)
            | ((with_reducible refine (L1.out _).mono ?_); rintro e w' ⟨rfl, hb⟩; exact hK _ hb)
            | ((with_reducible refine (L2.out _).mono ?_); rintro e w' ⟨rfl, hb⟩; exact hK _ hb)
            | ((with_reducible refine (L3.out _).mono ?_); rintro e w' ⟨rfl, hb⟩; exact hK _ hb))
         simp only [setD, List.set_cons_zero, List.set_cons_succ]))
    intro us W hW hg
    simp only [fillA]
    clear hg
    go_wp2_with fail
    go_ret
    exact ⟨by simp, below_tr B0.out hW⟩
def unitB (n : Int) : Bool := decide (0 ≤ n) && decide (n ≤ 1099511627776)
def rmayV (v : V3) : Bool := unitB v.c && unitB v.m && unitB v.p
theorem rmay_eq (v : V3) : rmayV v = mayV v := by
  unfold rmayV mayV leV unitB z3 mostV
  simp only
  rw [Bool.eq_iff_iff]
  simp only [Bool.and_eq_true, decide_eq_true_eq]
  omega
theorem runit (n : Int) : Calls Try.prog 36 #[.int .i64 n] w fun e w' => e = .returned (.bool (unitB n)) ∧ w = w' := by
  have E : Hid (unitB n = (decide (0 ≤ n) && decide (n ≤ 1099511627776))) := rfl
  by_cases h1 : 0 ≤ n
  · by_cases h2 : n ≤ 1099511627776
    all_goals
      go_enter Try.func36, Try.ntmps36
      go_wp2_with fail
      go_ret
      exact ⟨by rw [E.out]; simp; omega, rfl⟩
  · go_enter Try.func36, Try.ntmps36
    go_wp2_with fail
    go_ret
    exact ⟨by rw [E.out]; simp; omega, rfl⟩
theorem rmay_any (v : V3) : Calls Try.prog 20 #[.agg #[.int .i64 v.c, .int .i64 v.m, .int .i64 v.p]] w (Made (.bool (mayV v)) w) := by
  rw [← rmay_eq, show rmayV v = (unitB v.c && unitB v.m && unitB v.p) from rfl]
  have U1 := Lib.hid (fun W => runit W v.c)
  have U2 := Lib.hid (fun W => runit W v.m)
  have U3 := Lib.hid (fun W => runit W v.p)
  generalize unitB v.c = b1 at *
  generalize unitB v.m = b2 at *
  generalize unitB v.p = b3 at *
  cases b1
  · go_enter Try.func20, Try.ntmps20
    go_wp2_with (first | (go_at_call 36; with_reducible refine (U1.out _).mono ?_; rintro e w' ⟨rfl, rfl⟩) | (go_at_call 36; with_reducible refine (U2.out _).mono ?_; rintro e w' ⟨rfl, rfl⟩) | (go_at_call 36; with_reducible refine (U3.out _).mono ?_; rintro e w' ⟨rfl, rfl⟩))
    go_ret
    exact ⟨rfl, below_al (Below.refl _ _) _⟩
  · cases b2
    all_goals
      go_enter Try.func20, Try.ntmps20
      go_wp2_with (first | (go_at_call 36; with_reducible refine (U1.out _).mono ?_; rintro e w' ⟨rfl, rfl⟩) | (go_at_call 36; with_reducible refine (U2.out _).mono ?_; rintro e w' ⟨rfl, rfl⟩) | (go_at_call 36; with_reducible refine (U3.out _).mono ?_; rintro e w' ⟨rfl, rfl⟩))
      go_ret
      exact ⟨rfl, below_al (Below.refl _ _) _⟩
theorem rsub_any (a b : V3) (h : (subV a b).I) : Calls Try.prog 34 #[.agg #[.int .i64 a.c, .int .i64 a.m, .int .i64 a.p], .agg #[.int .i64 b.c, .int .i64 b.m, .int .i64 b.p]] w (Made (.agg #[.int .i64 (subV a b).c, .int .i64 (subV a b).m, .int .i64 (subV a b).p]) w) := by
  obtain ⟨⟨h1, h2⟩, ⟨h3, h4⟩, ⟨h5, h6⟩⟩ := h
  unfold subV at *
  simp only at h1 h2 h3 h4 h5 h6 ⊢
  go_enter Try.func34, Try.ntmps34
  go_wp2_with fail
  exact bodyPost_ret (v := .agg #[.int .i64 (a.c - b.c), .int .i64 (a.m - b.m), .int .i64 (a.p - b.p)]) (by simp [results, Try.results34, go_sem]) rfl ⟨rfl, below_al (below_al (below_al (Below.refl _ _) _) _) _⟩
theorem radd2_any (a b : V3) (h : (addV a b).I) : Calls Try.prog 18 #[.agg #[.int .i64 a.c, .int .i64 a.m, .int .i64 a.p], .agg #[.int .i64 b.c, .int .i64 b.m, .int .i64 b.p]] w (Made (.agg #[.int .i64 (addV a b).c, .int .i64 (addV a b).m, .int .i64 (addV a b).p]) w) := by
  obtain ⟨⟨h1, h2⟩, ⟨h3, h4⟩, ⟨h5, h6⟩⟩ := h
  unfold addV at *
  simp only at h1 h2 h3 h4 h5 h6 ⊢
  go_enter Try.func18, Try.ntmps18
  go_wp2_with fail
  exact bodyPost_ret (v := .agg #[.int .i64 (a.c + b.c), .int .i64 (a.m + b.m), .int .i64 (a.p + b.p)]) (by simp [results, Try.results18, go_sem]) rfl ⟨rfl, below_al (below_al (below_al (Below.refl _ _) _) _) _⟩
theorem rle_any (a b : V3) : Calls Try.prog 21 #[.agg #[.int .i64 a.c, .int .i64 a.m, .int .i64 a.p], .agg #[.int .i64 b.c, .int .i64 b.m, .int .i64 b.p]] w (Made (.bool (leV a b)) w) := by
  have E : Hid (leV a b = (decide (a.c ≤ b.c) && decide (a.m ≤ b.m) && decide (a.p ≤ b.p))) := rfl
  by_cases h1 : a.c ≤ b.c
  · by_cases h2 : a.m ≤ b.m
    · by_cases h3 : a.p ≤ b.p
      all_goals
        go_enter Try.func21, Try.ntmps21
        go_wp2_with fail
        go_ret
        exact ⟨by rw [E.out]; simp [h1, h2, h3], below_al (below_al (Below.refl _ _) _) _⟩
    · go_enter Try.func21, Try.ntmps21
      go_wp2_with fail
      go_ret
      exact ⟨by rw [E.out]; simp; omega, below_al (below_al (Below.refl _ _) _) _⟩
  · go_enter Try.func21, Try.ntmps21
    go_wp2_with fail
    go_ret
    exact ⟨by rw [E.out]; simp; omega, below_al (below_al (Below.refl _ _) _) _⟩
end
end Go.Proofs.Ytekaefeogbmmmaa
