/- Package vec: what may be; the document's side; the law's example. -/
import Derived.Test.YtjoakpgcflhfnaaDoorVecB
import Derived.Deep.LoopGhost
namespace Go.Proofs.YtjoakpgcflhfnaaDoor
open Go.RowKit
set_option linter.unusedVariables false
set_option linter.unusedSimpArgs false
section
variable (w : World)
set_option maxHeartbeats 4000000 in
set_option maxRecDepth 20000 in
theorem vmay_any (v : V3) : Calls Tryd.prog 6 #[.agg #[.int .i64 v.c, .int .i64 v.m, .int .i64 v.p]] w (Made (.bool (mayV v)) w) := by
  have L1 := Lib.hid (show ∀ W, Calls Tryd.prog 15 #[.agg #[.int .i64 0, .int .i64 0, .int .i64 0], .agg #[.int .i64 v.c, .int .i64 v.m, .int .i64 v.p]] W (Made (.bool (leV z3 v)) W) from fun W => vle_any W z3 v)
  have L2 := Lib.hid (show ∀ W, Calls Tryd.prog 15 #[.agg #[.int .i64 v.c, .int .i64 v.m, .int .i64 v.p], .agg #[.int .i64 1099511627776, .int .i64 1099511627776, .int .i64 1099511627776]] W (Made (.bool (leV v mostV)) W) from fun W => vle_any W v mostV)
  have L3 := Lib.hid (show ∀ W, Calls Tryd.prog 19 #[] W (Made (.agg #[.int .i64 1099511627776, .int .i64 1099511627776, .int .i64 1099511627776]) W) from fun W => vmost_any W)
  rw [show mayV v = (leV z3 v && leV v mostV) from rfl]
  generalize leV z3 v = b1 at *
  generalize leV v mostV = b2 at *
  go_enter Tryd.func6, Tryd.ntmps6
  go_wp2_with fail
  have B0 := Lib.hid (below_al (Below.refl w.heap.size w) (.cells #[.int .i64 v.c, .int .i64 v.m, .int .i64 v.p] 23))
  obtain ⟨q0, q1, q2, -⟩ := (CBlk.new w v).cells
  cases b1
  all_goals
    refine wp_region_mono (by kernel_rfl) (by kernel_rfl) ?_
    simp only [List.map_cons, List.map_nil]
    repeat (first
      | (apply wpM_is
         · (intro us W hW hg K hK
            clear hg
            have c0 := hold hW q0
            have c1 := hold hW q1
            have c2 := hold hW q2
            simp only [fillA]
            go_simp
            first
            | exact hK _ (Below.refl _ _)
            | ((with_reducible refine (L1.out _).mono ?_); rintro e w' ⟨rfl, hb⟩; exact hK _ hb)
            | ((with_reducible refine (L2.out _).mono ?_); rintro e w' ⟨rfl, hb⟩; exact hK _ hb)
            | ((with_reducible refine (L3.out _).mono ?_); rintro e w' ⟨rfl, hb⟩; exact hK _ hb))
         simp only [setD, List.set_cons_zero, List.set_cons_succ]))
    intro us W hW hg
    simp only [fillA]
    clear hg
    go_wp2_with fail
    go_ret
    exact ⟨by simp, below_tr B0.out hW⟩
def unitB (n : Int) : Bool := decide (0 ≤ n) && decide (n ≤ 1099511627776)
def rmayV (v : V3) : Bool := unitB v.c && unitB v.m && unitB v.p
theorem rmay_eq (v : V3) : rmayV v = mayV v := by
  unfold rmayV mayV leV unitB z3 mostV
  simp only
  rw [Bool.eq_iff_iff]
  simp only [Bool.and_eq_true, decide_eq_true_eq]
  omega
theorem runit (n : Int) : Calls Tryd.prog 22 #[.int .i64 n] w fun e w' => e = .returned (.bool (unitB n)) ∧ w = w' := by
  have E : Hid (unitB n = (decide (0 ≤ n) && decide (n ≤ 1099511627776))) := rfl
  by_cases h1 : 0 ≤ n
  · by_cases h2 : n ≤ 1099511627776
    all_goals
      go_enter Tryd.func22, Tryd.ntmps22
      go_wp2_with fail
      go_ret
      exact ⟨by rw [E.out]; simp; omega, rfl⟩
  · go_enter Tryd.func22, Tryd.ntmps22
    go_wp2_with fail
    go_ret
    exact ⟨by rw [E.out]; simp; omega, rfl⟩
theorem rmay_any (v : V3) : Calls Tryd.prog 7 #[.agg #[.int .i64 v.c, .int .i64 v.m, .int .i64 v.p]] w (Made (.bool (mayV v)) w) := by
  rw [← rmay_eq, show rmayV v = (unitB v.c && unitB v.m && unitB v.p) from rfl]
  have U1 := Lib.hid (fun W => runit W v.c)
  have U2 := Lib.hid (fun W => runit W v.m)
  have U3 := Lib.hid (fun W => runit W v.p)
  generalize unitB v.c = b1 at *
  generalize unitB v.m = b2 at *
  generalize unitB v.p = b3 at *
  cases b1
  · go_enter Tryd.func7, Tryd.ntmps7
    go_wp2_with (first | (go_at_call 22; with_reducible refine (U1.out _).mono ?_; rintro e w' ⟨rfl, rfl⟩) | (go_at_call 22; with_reducible refine (U2.out _).mono ?_; rintro e w' ⟨rfl, rfl⟩) | (go_at_call 22; with_reducible refine (U3.out _).mono ?_; rintro e w' ⟨rfl, rfl⟩))
    go_ret
    exact ⟨rfl, below_al (Below.refl _ _) _⟩
  · cases b2
    all_goals
      go_enter Tryd.func7, Tryd.ntmps7
      go_wp2_with (first | (go_at_call 22; with_reducible refine (U1.out _).mono ?_; rintro e w' ⟨rfl, rfl⟩) | (go_at_call 22; with_reducible refine (U2.out _).mono ?_; rintro e w' ⟨rfl, rfl⟩) | (go_at_call 22; with_reducible refine (U3.out _).mono ?_; rintro e w' ⟨rfl, rfl⟩))
      go_ret
      exact ⟨rfl, below_al (Below.refl _ _) _⟩
theorem rsub_any (a b : V3) (h : (subV a b).I) : Calls Tryd.prog 14 #[.agg #[.int .i64 a.c, .int .i64 a.m, .int .i64 a.p], .agg #[.int .i64 b.c, .int .i64 b.m, .int .i64 b.p]] w (Made (.agg #[.int .i64 (subV a b).c, .int .i64 (subV a b).m, .int .i64 (subV a b).p]) w) := by
  obtain ⟨⟨h1, h2⟩, ⟨h3, h4⟩, ⟨h5, h6⟩⟩ := h
  unfold subV at *
  simp only at h1 h2 h3 h4 h5 h6 ⊢
  go_enter Tryd.func14, Tryd.ntmps14
  go_wp2_with fail
  exact bodyPost_ret (v := .agg #[.int .i64 (a.c - b.c), .int .i64 (a.m - b.m), .int .i64 (a.p - b.p)]) (by simp [results, Tryd.results14, go_sem]) rfl ⟨rfl, below_al (below_al (below_al (Below.refl _ _) _) _) _⟩
theorem radd2_any (a b : V3) (h : (addV a b).I) : Calls Tryd.prog 25 #[.agg #[.int .i64 a.c, .int .i64 a.m, .int .i64 a.p], .agg #[.int .i64 b.c, .int .i64 b.m, .int .i64 b.p]] w (Made (.agg #[.int .i64 (addV a b).c, .int .i64 (addV a b).m, .int .i64 (addV a b).p]) w) := by
  obtain ⟨⟨h1, h2⟩, ⟨h3, h4⟩, ⟨h5, h6⟩⟩ := h
  unfold addV at *
  simp only at h1 h2 h3 h4 h5 h6 ⊢
  go_enter Tryd.func25, Tryd.ntmps25
  go_wp2_with fail
  exact bodyPost_ret (v := .agg #[.int .i64 (a.c + b.c), .int .i64 (a.m + b.m), .int .i64 (a.p + b.p)]) (by simp [results, Tryd.results25, go_sem]) rfl ⟨rfl, below_al (below_al (below_al (Below.refl _ _) _) _) _⟩
theorem rmax_any (a b : V3) : Calls Tryd.prog 18 #[.agg #[.int .i64 a.c, .int .i64 a.m, .int .i64 a.p], .agg #[.int .i64 b.c, .int .i64 b.m, .int .i64 b.p]] w (Made (.agg #[.int .i64 (max2V a b).c, .int .i64 (max2V a b).m, .int .i64 (max2V a b).p]) w) := by
  obtain ⟨M, hM⟩ : ∃ M, M = max2V a b := ⟨_, rfl⟩
  have m0 : (if a.c < b.c then b.c else a.c) = M.c := by rw [hM]; unfold max2V; simp only; omega
  have m1 : (if a.m < b.m then b.m else a.m) = M.m := by rw [hM]; unfold max2V; simp only; omega
  have m2 : (if a.p < b.p then b.p else a.p) = M.p := by rw [hM]; unfold max2V; simp only; omega
  have x0 : max a.c b.c = M.c := by rw [hM]; rfl
  have x1 : max a.m b.m = M.m := by rw [hM]; rfl
  have x2 : max a.p b.p = M.p := by rw [hM]; rfl
  rw [← hM]
  clear hM
  go_enter Tryd.func18, Tryd.ntmps18
  go_wp2_with fail
  exact bodyPost_ret (v := .agg #[.int .i64 M.c, .int .i64 M.m, .int .i64 M.p]) (by simp [results, Tryd.results18, go_sem, x0, x1, x2]) rfl ⟨rfl, below_al (below_al (below_al (Below.refl _ _) _) _) _⟩
theorem rmost_any : Calls Tryd.prog 20 #[] w (Made mostV.val w) := by
  go_enter Tryd.func20, Tryd.ntmps20
  go_wp2_with fail
  exact bodyPost_ret (v := mostV.val) (by simp [results, Tryd.results20, go_sem, mostV, V3.val]) rfl ⟨rfl, below_al (Below.refl _ _) _⟩
theorem rle_any (a b : V3) : Calls Tryd.prog 16 #[.agg #[.int .i64 a.c, .int .i64 a.m, .int .i64 a.p], .agg #[.int .i64 b.c, .int .i64 b.m, .int .i64 b.p]] w (Made (.bool (leV a b)) w) := by
  have E : Hid (leV a b = (decide (a.c ≤ b.c) && decide (a.m ≤ b.m) && decide (a.p ≤ b.p))) := rfl
  by_cases h1 : a.c ≤ b.c
  · by_cases h2 : a.m ≤ b.m
    · by_cases h3 : a.p ≤ b.p
      all_goals
        go_enter Tryd.func16, Tryd.ntmps16
        go_wp2_with fail
        go_ret
        exact ⟨by rw [E.out]; simp [h1, h2, h3], below_al (below_al (Below.refl _ _) _) _⟩
    · go_enter Tryd.func16, Tryd.ntmps16
      go_wp2_with fail
      go_ret
      exact ⟨by rw [E.out]; simp; omega, below_al (below_al (Below.refl _ _) _) _⟩
  · go_enter Tryd.func16, Tryd.ntmps16
    go_wp2_with fail
    go_ret
    exact ⟨by rw [E.out]; simp; omega, below_al (below_al (Below.refl _ _) _) _⟩
theorem lmake_any (a b c : Nat) (ha : a < 65536) (hb : b < 65536) (hc : c < 65536) : Calls Tryd.prog 21 #[.int .u16 a, .int .u16 b, .int .u16 c] w (Made (.agg #[.int .i64 a, .int .i64 b, .int .i64 c]) w) := by
  go_enter Tryd.func21, Tryd.ntmps21
  go_wp2_with fail
  exact bodyPost_ret (v := .agg #[.int .i64 a, .int .i64 b, .int .i64 c]) (by simp [results, Tryd.results21, go_sem]) rfl ⟨rfl, below_al (Below.refl _ _) _⟩
theorem text1 : textV ⟨1, 0, 0⟩ = ⟨#[99, 112, 117, 61, 49, 32, 109, 101, 109, 61, 48, 32, 112, 111, 100, 115, 61, 48]⟩ := by
  have h0 : itoaB 0 = ⟨#[48]⟩ := by kernel_rfl
  have h1 : itoaB 1 = ⟨#[49]⟩ := by kernel_rfl
  unfold textV
  simp only [h0, h1]
  rfl
set_option maxHeartbeats 4000000 in
set_option maxRecDepth 20000 in
theorem law10_awake (ht : TabOK w) : Calls Tryd.prog 10 #[] w (Made (.bool true) w) := by
  have A1 := Lib.hid (fun W => vadd_any W [] (.slice none 0 0) (VRow.nil W) (by simp) (by simp))
  have M1 := Lib.hid (show ∀ W, Calls Tryd.prog 19 #[] W (Made (.agg #[.int .i64 1099511627776, .int .i64 1099511627776, .int .i64 1099511627776]) W) from fun W => vmost_any W)
  have T1 := Lib.hid (show ∀ W, Below w.heap.size w W → Calls Tryd.prog 8 #[.agg #[.int .i64 1, .int .i64 0, .int .i64 0]] W (Made (.string ⟨#[99, 112, 117, 61, 49, 32, 109, 101, 109, 61, 48, 32, 112, 111, 100, 115, 61, 48]⟩) W) from
    fun W hW => text1 ▸ vtext_any W ⟨1, 0, 0⟩ (by unfold V3.I; simp) (ht.below hW))
  have FL : ∀ W, (Instr.field 23 (.agg #[.int .i64 1099511627776, .int .i64 1099511627776, .int .i64 1099511627776]) 1).run Tryd.prog W = .ok (.int .i64 1099511627776) W := fun W => by kernel_rfl
  clear ht
  go_enter Tryd.func10, Tryd.ntmps10
  go_wp2_with fail
  with_reducible refine (A1.out _).mono ?_
  rintro e w1 ⟨rfl, h1⟩
  go_wp2_with fail
  with_reducible refine (M1.out _).mono ?_
  rintro e w2 ⟨rfl, h2⟩
  go_wp2_with fail
  (with_reducible refine (T1.out _ ?_).mono ?_)
  · exact below_tr h1 h2
  rintro e w3 ⟨rfl, h3⟩
  go_wp2_with fail
  go_ret
  exact ⟨rfl, below_tr (below_tr h1 h2) h3⟩
end
end Go.Proofs.YtjoakpgcflhfnaaDoor
