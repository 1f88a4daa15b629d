/- 'AdmitTwice': two that are let in come to the same in either order, and at once; what was handed in reads as before. Conditions: none. -/
import Derived.Test.YtekaefeogbmmmaaAdO
import Derived.Test.YtekaefeogbmmmaaAdS
import Derived.Test.YtekaefeogbmmmaaRows
import Derived.ProofKit
import Derived.OpenShut
import Derived.ShutString
import Derived.Carry
import Derived.ChangeOld
namespace Go.Proofs.Ytekaefeogbmmmaa.admitTwiceDone
open Go.ChangeShapes Go.WideShapes Go.ChangeAt Go.RowKit
open Go.ChangeMaps (open_string shut_string)
set_option linter.unusedVariables false

theorem own : ownKnob Try.prog.godebug = none := by kernel_rfl
theorem laidOut : laidOutB Try.prog = true := by kernel_rfl
set_option maxRecDepth 100000 in
theorem lifted (os : Os) (started : os.Started) (H : Type) (enc : TypeId × Value → H) :
    ReturnsInHanded {} Try.checked os 6 .any (Rows.admitTwiceSpec.pre6 enc Try.prog Try.f6 Rows.admitTwiceRow.domain false) (Rows.admitTwiceSpec.post enc Try.prog Try.f6 false true false false) := by
  refine returnsInHanded_of_change (C := Try.checked) own started (by kernel_rfl) Try.func6
    (ChangeSpec.witness6 (enc := enc) (C := Try.checked) false ⟨#[], #[.slice none 0 0, .int .u8 0, .int .u8 0, .int .u8 0, .int .u8 0], []⟩ 8 (by kernel_rfl) (by kernel_rfl) (by kernel_rfl) (by kernel_rfl)) ?_
  intro W base args ds gs before hval0 hW hcnd _
  have hval : ∀ (j : Nat) t v, Try.f6.params[j]? = some t → args[j]? = some v → Value.okWide Try.prog W .any base t v := hval0
  have hW' := hW
  obtain ⟨p, q, hA0, hV, rfl, hfz, hnd⟩ := hW
  have hA : DataW.TrodAll enc Try.prog W 0 (fun _ => true) true Try.f6.params.toList args.toList ds p := hA0
  rw [Try.params6] at hA hval
  obtain ⟨v0, vs0, d0, ds0, p0, q0, hargs, rfl, rfl, h0, hr0⟩ := trodAll_cons hA
  obtain ⟨v1, vs1, d1, ds1, p1, q1, rfl, rfl, rfl, h1, hr1⟩ := trodAll_cons hr0
  obtain ⟨v2, vs2, d2, ds2, p2, q2, rfl, rfl, rfl, h2, hr2⟩ := trodAll_cons hr1
  obtain ⟨v3, vs3, d3, ds3, p3, q3, rfl, rfl, rfl, h3, hr3⟩ := trodAll_cons hr2
  obtain ⟨v4, vs4, d4, ds4, p4, q4, rfl, rfl, rfl, h4, hr4⟩ := trodAll_cons hr3
  obtain ⟨rfl, rfl, rfl⟩ := trodAll_nil hr4
  obtain rfl : args = #[v0, v1, v2, v3, v4] := by cases args; simpa using hargs
  obtain ⟨rfl, rfl⟩ := trodVars_none hV
  have hlt0 : ∀ x ∈ p0, x.block < W.heap.size := fun x hx => hW'.lt x (by simp [hx])
  obtain ⟨xs0, hx0, h256_0, hl0⟩ := open_u8s (hval 0 36 v0 rfl rfl) h0
  obtain ⟨z1, rfl, rfl, rfl, hw1⟩ := open_int Try.underlying5 (hval 1 5 v1 rfl rfl) h1
  have hz1 : 0 ≤ z1 ∧ z1 ≤ 255 := by
    have h := hw1
    simp only [Lit.wf, Bool.and_eq_true, decide_eq_true_eq] at h
    exact h
  obtain ⟨m1, rfl⟩ : ∃ m : Nat, z1 = (m : Int) := ⟨z1.toNat, (Int.toNat_of_nonneg hz1.1).symm⟩
  have hm1 : m1 < 256 := by omega
  obtain ⟨z2, rfl, rfl, rfl, hw2⟩ := open_int Try.underlying5 (hval 2 5 v2 rfl rfl) h2
  have hz2 : 0 ≤ z2 ∧ z2 ≤ 255 := by
    have h := hw2
    simp only [Lit.wf, Bool.and_eq_true, decide_eq_true_eq] at h
    exact h
  obtain ⟨m2, rfl⟩ : ∃ m : Nat, z2 = (m : Int) := ⟨z2.toNat, (Int.toNat_of_nonneg hz2.1).symm⟩
  have hm2 : m2 < 256 := by omega
  obtain ⟨z3, rfl, rfl, rfl, hw3⟩ := open_int Try.underlying5 (hval 3 5 v3 rfl rfl) h3
  have hz3 : 0 ≤ z3 ∧ z3 ≤ 255 := by
    have h := hw3
    simp only [Lit.wf, Bool.and_eq_true, decide_eq_true_eq] at h
    exact h
  obtain ⟨m3, rfl⟩ : ∃ m : Nat, z3 = (m : Int) := ⟨z3.toNat, (Int.toNat_of_nonneg hz3.1).symm⟩
  have hm3 : m3 < 256 := by omega
  obtain ⟨z4, rfl, rfl, rfl, hw4⟩ := open_int Try.underlying5 (hval 4 5 v4 rfl rfl) h4
  have hz4 : 0 ≤ z4 ∧ z4 ≤ 255 := by
    have h := hw4
    simp only [Lit.wf, Bool.and_eq_true, decide_eq_true_eq] at h
    exact h
  obtain ⟨m4, rfl⟩ : ∃ m : Nat, z4 = (m : Int) := ⟨z4.toNat, (Int.toNat_of_nonneg hz4.1).symm⟩
  have hm4 : m4 < 256 := by omega
  clear hA0 hval0
  simp only [List.append_nil] at hW'
  refine (law_admittwiceI W admit_let xs0 v0 m1 m2 m3 m4 hm1 hm2 hm3 hm4 hx0 h256_0 hl0).mono fun e W' ⟨he, bel⟩ => ?_
  subst he
  exact ⟨_, rfl, _, _, _, [], _, [], hW', trodAll_mk1 (shut_bool Try.underlying4 _), (trodAll_cons_mk (Below.trod laidOut (by kernel_rfl) (of_decide_eq_true (by kernel_rfl)) h0 bel hlt0) (trodAll_cons_mk (shut_int Try.underlying5 hw1) (trodAll_cons_mk (shut_int Try.underlying5 hw2) (trodAll_cons_mk (shut_int Try.underlying5 hw3) (trodAll_cons_mk (shut_int Try.underlying5 hw4) trodAll_mk0))))), rfl, bel.frame _, fun h => by cases h⟩

theorem holds : Rows.AdmitTwiceSaid :=
  OpenClaim.holds_of_wide 6 Try.f6 rfl rfl rfl rfl rfl rfl rfl ⟨rfl, rfl, rfl, rfl, rfl⟩ rfl rfl rfl rfl rfl (by kernel_rfl) Try.func6 (by kernel_rfl)
    (of_decide_eq_true (by kernel_rfl)) (by unfold Func.isWrapper; first | (rw [if_pos (by decide +kernel)]; kernel_rfl) | (rw [if_neg (by decide +kernel)]; exact ⟨rfl, rfl⟩))
    (fun os started H enc _ => lifted os started H enc)
#print axioms holds
end Go.Proofs.Ytekaefeogbmmmaa.admitTwiceDone
