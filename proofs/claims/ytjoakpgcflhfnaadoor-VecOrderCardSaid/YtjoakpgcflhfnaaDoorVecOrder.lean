/- 'VecOrder': at most is an order, and the greatest is above both and below all that is, as the law says; what was handed in reads as before. Conditions: none of its own; the listed package-level variables hold what the program's own text lays (tied). -/
import Derived.Test.YtjoakpgcflhfnaaDoorCardV
import Derived.Carry
namespace Go.Proofs.YtjoakpgcflhfnaaDoor.vecOrderDone
open Go.ChangeShapes Go.WideShapes Go.ChangeAt Go.RowKit
open Go.ChangeMaps (open_string shut_string)
set_option linter.unusedVariables false

set_option maxRecDepth 100000 in
theorem lifted (os : Os) (started : os.Started) (H : Type) (enc : TypeId × Value → H) :
    ReturnsInHanded {} Tryd.checked os 5 .any (fun w args => (Rows.vecOrderSpec.pre enc Tryd.prog Tryd.f5 [] false w args ∧ laidMetH Tryd.prog laidAll w) ∧ sizedMet enc Tryd.prog Tryd.f5 (OpenSpec.ofChange Rows.vecOrderSpec) false w args)
      (Rows.vecOrderSpec.post enc Tryd.prog Tryd.f5 false true false false) := by
  refine returnsInHanded_of_change_and (C := Tryd.checked) (X := fun w _ => laidMetH Tryd.prog laidAll w) (fun _ _ _ hh h => h.of_heap hh) own started (by kernel_rfl) Tryd.func5
    (ChangeSpec.witness_shaped (enc := enc) (C := Tryd.checked) (os := os) (X := fun w _ => laidMetH Tryd.prog laidAll w) false (World.doorLaid Tryd.prog 400 os) #[.int .u16 0, .int .u16 0, .int .u16 0, .int .u16 0, .int .u16 0, .int .u16 0, .int .u16 0, .int .u16 0, .int .u16 0] 8 rfl (World.shaped_of_RefB (by kernel_rfl) (by kernel_rfl)) (by kernel_rfl) (by kernel_rfl) (by kernel_rfl) (door_met os _)) ?_
  intro W base args ds gs before hval0 hW _ _ hL _
  have hval : ∀ (j : Nat) t v, Tryd.f5.params[j]? = some t → args[j]? = some v → Value.okWide Tryd.prog W .any base t v := hval0
  have hW' := hW
  obtain ⟨p, q, hA0, hV, rfl, hfz, hnd⟩ := hW
  have hA : DataW.TrodAll enc Tryd.prog W 0 (fun _ => true) true Tryd.f5.params.toList args.toList ds p := hA0
  rw [Tryd.params5] at hA hval
  obtain ⟨v0, vs0, d0, ds0, p0, q0, hargs, rfl, rfl, h0, hr0⟩ := trodAll_cons hA
  obtain ⟨v1, vs1, d1, ds1, p1, q1, rfl, rfl, rfl, h1, hr1⟩ := trodAll_cons hr0
  obtain ⟨v2, vs2, d2, ds2, p2, q2, rfl, rfl, rfl, h2, hr2⟩ := trodAll_cons hr1
  obtain ⟨v3, vs3, d3, ds3, p3, q3, rfl, rfl, rfl, h3, hr3⟩ := trodAll_cons hr2
  obtain ⟨v4, vs4, d4, ds4, p4, q4, rfl, rfl, rfl, h4, hr4⟩ := trodAll_cons hr3
  obtain ⟨v5, vs5, d5, ds5, p5, q5, rfl, rfl, rfl, h5, hr5⟩ := trodAll_cons hr4
  obtain ⟨v6, vs6, d6, ds6, p6, q6, rfl, rfl, rfl, h6, hr6⟩ := trodAll_cons hr5
  obtain ⟨v7, vs7, d7, ds7, p7, q7, rfl, rfl, rfl, h7, hr7⟩ := trodAll_cons hr6
  obtain ⟨v8, vs8, d8, ds8, p8, q8, rfl, rfl, rfl, h8, hr8⟩ := trodAll_cons hr7
  obtain ⟨rfl, rfl, rfl⟩ := trodAll_nil hr8
  obtain rfl : args = #[v0, v1, v2, v3, v4, v5, v6, v7, v8] := by cases args; simpa using hargs
  obtain ⟨rfl, rfl⟩ := trodVars_none hV
  obtain ⟨z0, rfl, rfl, rfl, hw0⟩ := open_int Tryd.underlying34 (hval 0 34 v0 rfl rfl) h0
  have hz0 : 0 ≤ z0 ∧ z0 ≤ 65535 := by
    have h := hw0
    simp only [Lit.wf, Bool.and_eq_true, decide_eq_true_eq] at h
    exact h
  obtain ⟨m0, rfl⟩ : ∃ m : Nat, z0 = (m : Int) := ⟨z0.toNat, (Int.toNat_of_nonneg hz0.1).symm⟩
  have hm0 : m0 < 65536 := by omega
  obtain ⟨z1, rfl, rfl, rfl, hw1⟩ := open_int Tryd.underlying34 (hval 1 34 v1 rfl rfl) h1
  have hz1 : 0 ≤ z1 ∧ z1 ≤ 65535 := by
    have h := hw1
    simp only [Lit.wf, Bool.and_eq_true, decide_eq_true_eq] at h
    exact h
  obtain ⟨m1, rfl⟩ : ∃ m : Nat, z1 = (m : Int) := ⟨z1.toNat, (Int.toNat_of_nonneg hz1.1).symm⟩
  have hm1 : m1 < 65536 := by omega
  obtain ⟨z2, rfl, rfl, rfl, hw2⟩ := open_int Tryd.underlying34 (hval 2 34 v2 rfl rfl) h2
  have hz2 : 0 ≤ z2 ∧ z2 ≤ 65535 := by
    have h := hw2
    simp only [Lit.wf, Bool.and_eq_true, decide_eq_true_eq] at h
    exact h
  obtain ⟨m2, rfl⟩ : ∃ m : Nat, z2 = (m : Int) := ⟨z2.toNat, (Int.toNat_of_nonneg hz2.1).symm⟩
  have hm2 : m2 < 65536 := by omega
  obtain ⟨z3, rfl, rfl, rfl, hw3⟩ := open_int Tryd.underlying34 (hval 3 34 v3 rfl rfl) h3
  have hz3 : 0 ≤ z3 ∧ z3 ≤ 65535 := by
    have h := hw3
    simp only [Lit.wf, Bool.and_eq_true, decide_eq_true_eq] at h
    exact h
  obtain ⟨m3, rfl⟩ : ∃ m : Nat, z3 = (m : Int) := ⟨z3.toNat, (Int.toNat_of_nonneg hz3.1).symm⟩
  have hm3 : m3 < 65536 := by omega
  obtain ⟨z4, rfl, rfl, rfl, hw4⟩ := open_int Tryd.underlying34 (hval 4 34 v4 rfl rfl) h4
  have hz4 : 0 ≤ z4 ∧ z4 ≤ 65535 := by
    have h := hw4
    simp only [Lit.wf, Bool.and_eq_true, decide_eq_true_eq] at h
    exact h
  obtain ⟨m4, rfl⟩ : ∃ m : Nat, z4 = (m : Int) := ⟨z4.toNat, (Int.toNat_of_nonneg hz4.1).symm⟩
  have hm4 : m4 < 65536 := by omega
  obtain ⟨z5, rfl, rfl, rfl, hw5⟩ := open_int Tryd.underlying34 (hval 5 34 v5 rfl rfl) h5
  have hz5 : 0 ≤ z5 ∧ z5 ≤ 65535 := by
    have h := hw5
    simp only [Lit.wf, Bool.and_eq_true, decide_eq_true_eq] at h
    exact h
  obtain ⟨m5, rfl⟩ : ∃ m : Nat, z5 = (m : Int) := ⟨z5.toNat, (Int.toNat_of_nonneg hz5.1).symm⟩
  have hm5 : m5 < 65536 := by omega
  obtain ⟨z6, rfl, rfl, rfl, hw6⟩ := open_int Tryd.underlying34 (hval 6 34 v6 rfl rfl) h6
  have hz6 : 0 ≤ z6 ∧ z6 ≤ 65535 := by
    have h := hw6
    simp only [Lit.wf, Bool.and_eq_true, decide_eq_true_eq] at h
    exact h
  obtain ⟨m6, rfl⟩ : ∃ m : Nat, z6 = (m : Int) := ⟨z6.toNat, (Int.toNat_of_nonneg hz6.1).symm⟩
  have hm6 : m6 < 65536 := by omega
  obtain ⟨z7, rfl, rfl, rfl, hw7⟩ := open_int Tryd.underlying34 (hval 7 34 v7 rfl rfl) h7
  have hz7 : 0 ≤ z7 ∧ z7 ≤ 65535 := by
    have h := hw7
    simp only [Lit.wf, Bool.and_eq_true, decide_eq_true_eq] at h
    exact h
  obtain ⟨m7, rfl⟩ : ∃ m : Nat, z7 = (m : Int) := ⟨z7.toNat, (Int.toNat_of_nonneg hz7.1).symm⟩
  have hm7 : m7 < 65536 := by omega
  obtain ⟨z8, rfl, rfl, rfl, hw8⟩ := open_int Tryd.underlying34 (hval 8 34 v8 rfl rfl) h8
  have hz8 : 0 ≤ z8 ∧ z8 ≤ 65535 := by
    have h := hw8
    simp only [Lit.wf, Bool.and_eq_true, decide_eq_true_eq] at h
    exact h
  obtain ⟨m8, rfl⟩ : ∃ m : Nat, z8 = (m : Int) := ⟨z8.toNat, (Int.toNat_of_nonneg hz8.1).symm⟩
  have hm8 : m8 < 65536 := by omega
  clear hA0 hval0
  simp only [List.append_nil] at hW'
  refine (law_vorder W m0 m1 m2 m3 m4 m5 m6 m7 m8 hm0 hm1 hm2 hm3 hm4 hm5 hm6 hm7 hm8 (tab_of_laid hL)).mono fun e W' ⟨he, bel⟩ => ?_
  subst he
  exact ⟨_, rfl, _, _, _, [], [], [], hW', trodAll_mk1 (shut_bool Tryd.underlying4 _), (trodAll_cons_mk (shut_int Tryd.underlying34 hw0) (trodAll_cons_mk (shut_int Tryd.underlying34 hw1) (trodAll_cons_mk (shut_int Tryd.underlying34 hw2) (trodAll_cons_mk (shut_int Tryd.underlying34 hw3) (trodAll_cons_mk (shut_int Tryd.underlying34 hw4) (trodAll_cons_mk (shut_int Tryd.underlying34 hw5) (trodAll_cons_mk (shut_int Tryd.underlying34 hw6) (trodAll_cons_mk (shut_int Tryd.underlying34 hw7) (trodAll_cons_mk (shut_int Tryd.underlying34 hw8) trodAll_mk0))))))))), rfl, bel.frame _, fun h => by cases h⟩

theorem said : Rows.VecOrderSaid :=
  OpenClaim.holds_of_wide 5 Tryd.f5 rfl rfl rfl rfl rfl rfl rfl ⟨rfl, rfl, rfl, rfl, rfl⟩ rfl rfl rfl rfl rfl (by kernel_rfl) Tryd.func5 (by kernel_rfl)
    (of_decide_eq_true (by kernel_rfl)) (by unfold Func.isWrapper; first | (rw [if_pos (by decide +kernel)]; kernel_rfl) | (rw [if_neg (by decide +kernel)]; exact ⟨rfl, rfl⟩))
    (fun os started H enc _ => lifted os started H enc)

theorem plain (f : FuncId) (fn : Func) (hf : Tryd.pinned.checked.prog.funcNamed "doorkeeper/doorkeeperlaw10.VecOrder" = some f) (hfn : Tryd.pinned.checked.prog.funcs[f]? = some fn) :
    false = Tryd.pinned.checked.prog.looks [] ∧ ∀ (j : Nat) t, fn.params[j]? = some t → Tryd.pinned.checked.prog.wantsStandIn t = false := by
  obtain rfl : f = 5 := Option.some.inj ((show Tryd.prog.funcNamed "doorkeeper/doorkeeperlaw10.VecOrder" = some 5 by kernel_rfl).symm.trans hf) |>.symm
  obtain rfl : fn = Tryd.f5 := (Option.some.inj (Tryd.func5.symm.trans hfn)).symm
  refine ⟨by kernel_rfl, fun j t ht => ?_⟩
  rw [Tryd.params5] at ht
  obtain rfl : t = 34 := by simpa using Array.mem_of_getElem? ht
  exact (show Tryd.prog.wantsStandIn 34 = false by kernel_rfl)

theorem card : Rows.VecOrderCardSaid :=
  Claim7.holds_tied_plain_at .later [] _ _ _ _ said (fun _ h => by cases h) (by kernel_rfl) (fun _ h => by cases h) vecOrder_row_tie rfl ⟨rfl, rfl⟩ (by kernel_rfl) rfl plain (by kernel_rfl)
#print axioms card
end Go.Proofs.YtjoakpgcflhfnaaDoor.vecOrderDone
