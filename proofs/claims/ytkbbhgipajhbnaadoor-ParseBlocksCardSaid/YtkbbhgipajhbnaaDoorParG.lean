/- Package parse's recursive methods, one step: binary, post. -/
import Derived.Test.YtkbbhgipajhbnaaDoorParF
namespace Go.Proofs.YtkbbhgipajhbnaaDoor
open Go.RowKit
set_option linter.unusedVariables false
set_option linter.unusedSimpArgs false
def BinRel (C : Ctx) (n : Nat) (b : Nat) (w : World) (nv : Value) (r v : Int) (S' : PS) (m : Nat) (lv : Value) (wr : World) : Prop :=
  ∃ l nv1 S1, lv = .int .i64 l ∧ m ≤ n ∧ ev C.T m (.loop r l) S1 = some ([v], S') ∧ Pr C wr b nv1 S1 ∧ Turn b nv nv1 w wr
def PostRel (C : Ctx) (n : Nat) (b : Nat) (w : World) (nv : Value) (v : Int) (S' : PS) (m : Nat) (lv : Value) (wr : World) : Prop :=
  ∃ l nv1 S1, lv = .int .i64 l ∧ m ≤ n ∧ ev C.T m (.ploop l) S1 = some ([v], S') ∧ Pr C wr b nv1 S1 ∧ Turn b nv nv1 w wr
section
variable (C : Ctx) (n : Nat) (b : Nat) (w : World) (nv : Value) (S : PS)
set_option maxHeartbeats 2000000 in
set_option maxRecDepth 20000 in
theorem qbin (IH : ∀ m, m ≤ n → Grp C m) (r v : Int) (S' : PS) (hr0 : 0 ≤ r) (hr6 : r ≤ 6) (h : Pr C w b nv S) (hr : ev C.T (n + 1) (.bin r) S = some ([v], S')) : Calls Tryd.prog 39 #[.pointer (some ⟨b, 0, none⟩), .int .i64 r] w (PPost C b nv w (.int .i64 v) S') := by
  have H := Lib.hid h
  clear h
  simp only [ev] at hr
  by_cases h6 : r = 6
  · rw [if_pos h6] at hr
    have E1 := Lib.hid hr
    have g : (r == 6) = true := by simpa using h6
    clear hr h6
    go_enter Tryd.func39, Tryd.ntmps39
    go_wp2_with fail
    refine ((IH n (Nat.le_refl n)).un b _ nv S _ _ H.out E1.out).mono ?_
    rintro e w1 ⟨rfl, nv1, k1, a1⟩
    have K1 := Lib.hid k1
    have A1 := Lib.hid a1
    clear k1 a1
    go_wp2_with fail
    go_ret
    exact ⟨rfl, nv1, K1.out, A1.out⟩
  · rw [if_neg h6] at hr
    simp only [Option.bind_eq_some_iff, Prod.exists] at hr
    obtain ⟨l0, S1, h1, h2⟩ := hr
    have E1 := Lib.hid (one_eq h1)
    have E2 := Lib.hid h2
    have g : (r == 6) = false := by simpa using h6
    have HR := Lib.hid (show 0 ≤ r + 1 ∧ r + 1 ≤ 6 by omega)
    clear h1 h2 h6
    go_enter Tryd.func39, Tryd.ntmps39
    go_wp2_with fail
    refine ((IH n (Nat.le_refl n)).bin (r + 1) b _ nv S _ _ HR.out.1 HR.out.2 H.out E1.out).mono ?_
    rintro e w1 ⟨rfl, nv1, k1, a1⟩
    have K1 := Lib.hid k1
    have A1 := Lib.hid a1
    clear k1 a1
    go_wp2_with fail
    go_loopg [5] n (fun m lv wr => BinRel C n b w nv r v S' m lv wr)
    case atStart => exact ⟨l0, nv1, S1, rfl, Nat.le_refl _, E2.out, K1.out, A1.out⟩
    case round =>
      clear E1 E2 K1 A1
      obtain ⟨l, nv2, S2, rfl, hm, he, hp, ha⟩ := hrel
      have HM := Lib.hid hm
      have K2 := Lib.hid hp
      have A2 := Lib.hid ha
      clear hm hp ha
      cases gk with
      | zero => simp [ev] at he
      | succ k =>
        obtain ⟨t, ht⟩ := K2.out.tok
        simp only [ev, ht, Option.bind_some] at he
        have HT := Lib.hid ht
        have HN := Lib.hid K2.out.lt
        have hfew := C.few
        have hat : (S2.at_ : Int) ≤ 100000 := by have := HN.out; omega
        clear ht hfew
        go_wp2_with fail
        refine (ppeek C b _ nv2 S2 K2.out t HT.out).mono ?_
        rintro e w3 ⟨pv, rfl, -, hb3⟩
        have K3 := Lib.hid (K2.out.below hb3)
        have A3 := Lib.hid (A2.out.trans (Turn.below (b := b) (nv := nv2) hb3))
        have q1 := fld1 w3 (.int .i64 t.kind) (.string t.text) (.int .i64 t.num) pv (.int .i64 t.at_)
        clear hb3 K2 A2
        go_wp2_with fail
        refine (poper t.text r _).mono ?_
        rintro e w4 ⟨rfl, rfl⟩
        clear q1
        by_cases hk : opOf t.text r = 0
        · rw [if_pos hk] at he
          simp at he
          obtain ⟨rfl, rfl⟩ := he
          have g0 : (opOf t.text r == 0) = true := by simpa using hk
          go_wp2_with fail
          go_ret
          exact ⟨rfl, nv2, K3.out, A3.out⟩
        · rw [if_neg hk] at he
          have g0 : (opOf t.text r == 0) = false := by simpa using hk
          generalize opOf t.text r = ko at *
          clear hk
          simp only [Option.bind_eq_some_iff, Prod.exists] at he
          obtain ⟨S3, h3, x, S4, h4, y, S5, h5, he⟩ := he
          unfold stepS at h3
          split at h3
          · rename_i hlt
            simp only [Option.some.injEq] at h3
            subst h3
            have E4 := Lib.hid (one_eq h4)
            have E5 := Lib.hid (one_eq h5)
            have K4 := Lib.hid (show Pr C (w3.setCell ⟨b, 1, none⟩ (.int .i64 ((S2.at_ : Int) + 1))) b nv2 ⟨S2.at_ + 1, S2.f, S2.ns, S2.d⟩ from K3.out.setAt (S2.at_ + 1) hlt)
            have A4 := Lib.hid (A3.out.trans (Turn.set b nv2 w3 1 (.int .i64 ((S2.at_ : Int) + 1))))
            obtain ⟨-, c1, -, -, -⟩ := K3.out.cells
            have f1 := K3.out.free 1
            clear h4 h5 hlt
            have HE := Lib.hid he
            clear he
            go_upto_region 8 with fail
            generalize w3.setCell ⟨b, 1, none⟩ (.int .i64 ((S2.at_ : Int) + 1)) = w4 at *
            clear c1 f1 K3 A3
            go_wp2_with fail
            refine ((IH k (by have := HM.out; omega)).bin (r + 1) b _ nv2 _ _ _ HR.out.1 HR.out.2 K4.out E4.out).mono ?_
            rintro e w5 ⟨rfl, nv5, k5, a5⟩
            have K5 := Lib.hid k5
            have A5 := Lib.hid (A4.out.trans a5)
            clear k5 a5
            go_wp2_with fail
            refine (padd_kids C b w5 nv5 _ K5.out ko 0 ⟨#[]⟩ [l, x] 2 #[.int .i64 l, .int .i64 x] rfl rfl (by omega) _ _ E5.out).mono ?_
            rintro e w6 ⟨rfl, nv6, k6, a6⟩
            have K6 := Lib.hid k6
            have A6 := Lib.hid (A5.out.trans a6)
            clear k6 a6
            by_cases h3 : r = 3
            · have he := HE.out
              rw [if_pos h3] at he
              simp at he
              obtain ⟨rfl, rfl⟩ := he
              have g3 : (r == 3) = true := by simpa using h3
              clear h3 HE
              go_wp2_with fail
              go_ret
              exact ⟨rfl, nv6, K6.out, A6.out⟩
            · have he := HE.out
              rw [if_neg h3] at he
              have HE2 := Lib.hid he
              have g3 : (r == 3) = false := by simpa using h3
              clear h3 he HE
              go_wp2_with fail
              go_roundg k
              case rel => exact ⟨y, nv6, S5, rfl, by have := HM.out; omega, HE2.out, K6.out, A6.out⟩
              case measure => omega
          · simp at h3
set_option maxHeartbeats 2000000 in
set_option maxRecDepth 20000 in
theorem qpost (IH : ∀ m, m ≤ n → Grp C m) (v : Int) (S' : PS) (h : Pr C w b nv S) (hr : ev C.T (n + 1) .post S = some ([v], S')) : Calls Tryd.prog 66 #[.pointer (some ⟨b, 0, none⟩)] w (PPost C b nv w (.int .i64 v) S') := by
  have H := Lib.hid h
  clear h
  simp only [ev, Option.bind_eq_some_iff, Prod.exists] at hr
  obtain ⟨l0, S1, h1, h2⟩ := hr
  have E1 := Lib.hid (one_eq h1)
  have E2 := Lib.hid h2
  clear h1 h2
  go_enter Tryd.func66, Tryd.ntmps66
  go_wp2_with fail
  refine ((IH n (Nat.le_refl n)).prim b _ nv S _ _ H.out E1.out).mono ?_
  rintro e w1 ⟨rfl, nv1, k1, a1⟩
  have K1 := Lib.hid k1
  have A1 := Lib.hid a1
  clear k1 a1
  go_wp2_with fail
  go_loopg [3] n (fun m lv wr => PostRel C n b w nv v S' m lv wr)
  case atStart => exact ⟨l0, nv1, S1, rfl, Nat.le_refl _, E2.out, K1.out, A1.out⟩
  case round =>
    clear E1 E2 K1 A1
    obtain ⟨l, nv2, S2, rfl, hm, he, hp, ha⟩ := hrel
    have HM := Lib.hid hm
    have K2 := Lib.hid hp
    have A2 := Lib.hid ha
    clear hm hp ha
    cases gk with
    | zero => simp [ev] at he
    | succ k =>
      simp only [ev, Option.bind_eq_some_iff, Prod.exists] at he
      obtain ⟨o, S3, h3, he⟩ := he
      have E3 := Lib.hid h3
      clear h3
      cases o
      · simp at he
        obtain ⟨rfl, rfl⟩ := he
        go_wp2_with fail
        refine (popen_ C b _ nv2 S2 K2.out ⟨#[91]⟩ _ _ E3.out).mono ?_
        rintro e w3 ⟨rfl, nv3, k3, a3⟩
        have K3 := Lib.hid k3
        have A3 := Lib.hid (A2.out.trans a3)
        clear k3 a3
        go_wp2_with fail
        go_ret
        exact ⟨rfl, nv3, K3.out, A3.out⟩
      · simp only [if_true, Option.bind_eq_some_iff, Prod.exists] at he
        obtain ⟨i, S4, h4, S5, h5, y, S6, h6, he⟩ := he
        have E4 := Lib.hid (one_eq h4)
        have E5 := Lib.hid h5
        have E6 := Lib.hid (one_eq h6)
        have HE := Lib.hid he
        clear h4 h5 h6 he
        go_wp2_with fail
        refine (popen_ C b _ nv2 S2 K2.out ⟨#[91]⟩ _ _ E3.out).mono ?_
        rintro e w3 ⟨rfl, nv3, k3, a3⟩
        have K3 := Lib.hid k3
        have A3 := Lib.hid (A2.out.trans a3)
        clear k3 a3
        go_wp2_with fail
        refine ((IH k (by have := HM.out; omega)).expr b _ nv3 _ _ _ K3.out E4.out).mono ?_
        rintro e w4 ⟨rfl, nv4, k4, a4⟩
        have K4 := Lib.hid k4
        have A4 := Lib.hid (A3.out.trans a4)
        clear k4 a4
        go_wp2_with fail
        refine (pclose C b _ nv4 _ K4.out ⟨#[93]⟩ _ E5.out).mono ?_
        rintro e w5 ⟨rfl, nv5, k5, a5⟩
        have K5 := Lib.hid k5
        have A5 := Lib.hid (A4.out.trans a5)
        clear k5 a5
        go_wp2_with fail
        refine (padd_kids C b w5 nv5 _ K5.out 7 0 ⟨#[]⟩ [l, i] 2 #[.int .i64 l, .int .i64 i] rfl rfl (by omega) _ _ E6.out).mono ?_
        rintro e w6 ⟨rfl, nv6, k6, a6⟩
        have K6 := Lib.hid k6
        have A6 := Lib.hid (A5.out.trans a6)
        clear k6 a6
        go_wp2_with fail
        go_roundg k
        case rel => exact ⟨y, nv6, S6, rfl, by have := HM.out; omega, HE.out, K6.out, A6.out⟩
        case measure => omega
end
end Go.Proofs.YtkbbhgipajhbnaaDoor
