/- Package parse's recursive methods, one step: expr, un, ahead, named. -/
import Derived.Test.YtkbbhgipajhbnaaDoorParE
namespace Go.Proofs.YtkbbhgipajhbnaaDoor
open Go.RowKit
set_option linter.unusedVariables false
set_option linter.unusedSimpArgs false
section
variable (C : Ctx) (n : Nat) (b : Nat) (w : World) (nv : Value) (S : PS)
set_option maxHeartbeats 2000000 in
set_option maxRecDepth 20000 in
theorem qexpr (IH : Grp C n) (v : Int) (S' : PS) (h : Pr C w b nv S) (hr : ev C.T (n + 1) .expr S = some ([v], S')) : Calls Tryd.prog 24 #[.pointer (some ⟨b, 0, none⟩)] w (PPost C b nv w (.int .i64 v) S') := by
  have H := Lib.hid h
  clear h
  simp only [ev, Option.bind_eq_some_iff, Prod.exists] at hr
  obtain ⟨t, S1, h1, o, S2, h2, hr⟩ := hr
  have E1 := Lib.hid (one_eq h1)
  have E2 := Lib.hid h2
  clear h1 h2
  cases o
  · simp at hr
    obtain ⟨rfl, rfl⟩ := hr
    go_enter Tryd.func24, Tryd.ntmps24
    go_wp2_with fail
    refine (IH.bin 1 b _ nv S _ _ (by omega) (by omega) H.out E1.out).mono ?_
    rintro e w1 ⟨rfl, nv1, k1, a1⟩
    have K1 := Lib.hid k1
    have A1 := Lib.hid a1
    clear k1 a1
    go_wp2_with fail
    refine (popen_ C b _ nv1 S1 K1.out ⟨#[63]⟩ _ _ E2.out).mono ?_
    rintro e w2 ⟨rfl, nv2, k2, a2⟩
    have K2 := Lib.hid k2
    have A2 := Lib.hid (A1.out.trans a2)
    clear k2 a2
    go_wp2_with fail
    go_ret
    exact ⟨rfl, nv2, K2.out, A2.out⟩
  · simp only [if_true, Option.bind_eq_some_iff, Prod.exists] at hr
    obtain ⟨y, S3, h3, S4, h4, z, S5, h5, S6, h6, hr⟩ := hr
    have E3 := Lib.hid (one_eq h3)
    have E4 := Lib.hid h4
    have E5 := Lib.hid (one_eq h5)
    have E7 := Lib.hid hr
    clear h3 h4 h5 hr
    unfold downS at h6
    split at h6
    · rename_i hd
      simp only [Option.some.injEq] at h6
      subst h6
      obtain ⟨d0, d1⟩ := hd
      go_enter Tryd.func24, Tryd.ntmps24
      go_wp2_with fail
      refine (IH.bin 1 b _ nv S _ _ (by omega) (by omega) H.out E1.out).mono ?_
      rintro e w1 ⟨rfl, nv1, k1, a1⟩
      have K1 := Lib.hid k1
      have A1 := Lib.hid a1
      clear k1 a1
      go_wp2_with fail
      refine (popen_ C b _ nv1 S1 K1.out ⟨#[63]⟩ _ _ E2.out).mono ?_
      rintro e w2 ⟨rfl, nv2, k2, a2⟩
      have K2 := Lib.hid k2
      have A2 := Lib.hid (A1.out.trans a2)
      clear k2 a2
      go_wp2_with fail
      refine (IH.expr b _ nv2 S2 _ _ K2.out E3.out).mono ?_
      rintro e w3 ⟨rfl, nv3, k3, a3⟩
      have K3 := Lib.hid k3
      have A3 := Lib.hid (A2.out.trans a3)
      clear k3 a3
      go_wp2_with fail
      refine (pneed C b _ nv3 S3 K3.out ⟨#[58]⟩ _ E4.out).mono ?_
      rintro e w4 ⟨rfl, nv4, k4, a4⟩
      have K4 := Lib.hid k4
      have A4 := Lib.hid (A3.out.trans a4)
      clear k4 a4
      go_wp2_with fail
      refine (IH.expr b _ nv4 S4 _ _ K4.out E5.out).mono ?_
      rintro e w5 ⟨rfl, nv5, k5, a5⟩
      have K6 := Lib.hid (k5.setD (S5.d - 1))
      have A6 := Lib.hid ((A4.out.trans a5).trans (Turn.set b nv5 w5 4 (.int .i64 (S5.d - 1))))
      obtain ⟨-, -, -, -, h4⟩ := k5.cells
      have f4 := k5.free 4
      clear k5 a5
      go_upto_region 8 with fail
      generalize w5.setCell ⟨b, 4, none⟩ (.int .i64 (S5.d - 1)) = w6 at *
      clear h4 f4
      go_wp2_with fail
      refine (padd_kids C b w6 nv5 _ K6.out 10 0 ⟨#[]⟩ [t, y, z] 3 #[.int .i64 t, .int .i64 y, .int .i64 z] rfl rfl (by omega) _ _ E7.out).mono ?_
      rintro e w7 ⟨rfl, nv7, k7, a7⟩
      have K7 := Lib.hid k7
      have A7 := Lib.hid (A6.out.trans a7)
      clear k7 a7
      go_wp2_with fail
      go_ret
      exact ⟨rfl, nv7, K7.out, A7.out⟩
    · simp at h6
set_option maxHeartbeats 2000000 in
set_option maxRecDepth 20000 in
theorem qun (IH : Grp C n) (v : Int) (S' : PS) (h : Pr C w b nv S) (hr : ev C.T (n + 1) .un S = some ([v], S')) : Calls Tryd.prog 56 #[.pointer (some ⟨b, 0, none⟩)] w (PPost C b nv w (.int .i64 v) S') := by
  have H := Lib.hid h
  clear h
  simp only [ev, Option.bind_eq_some_iff, Prod.exists] at hr
  obtain ⟨o, S1, h1, hr⟩ := hr
  have E1 := Lib.hid h1
  clear h1
  cases o
  · simp only [Bool.false_eq_true, if_false, Option.bind_eq_some_iff, Prod.exists] at hr
    obtain ⟨p, S2, h2, hr⟩ := hr
    have E2 := Lib.hid h2
    clear h2
    cases p
    · simp only [Bool.false_eq_true, if_false] at hr
      have E3 := Lib.hid hr
      clear hr
      go_enter Tryd.func56, Tryd.ntmps56
      go_wp2_with fail
      refine (popen_ C b _ nv S H.out ⟨#[45]⟩ _ _ E1.out).mono ?_
      rintro e w1 ⟨rfl, nv1, k1, a1⟩
      have K1 := Lib.hid k1
      have A1 := Lib.hid a1
      clear k1 a1
      go_wp2_with fail
      refine (popen_ C b _ nv1 S1 K1.out ⟨#[33]⟩ _ _ E2.out).mono ?_
      rintro e w2 ⟨rfl, nv2, k2, a2⟩
      have K2 := Lib.hid k2
      have A2 := Lib.hid (A1.out.trans a2)
      clear k2 a2
      go_wp2_with fail
      refine (IH.post b _ nv2 S2 _ _ K2.out E3.out).mono ?_
      rintro e w3 ⟨rfl, nv3, k3, a3⟩
      have K3 := Lib.hid k3
      have A3 := Lib.hid (A2.out.trans a3)
      clear k3 a3
      go_wp2_with fail
      go_ret
      exact ⟨rfl, nv3, K3.out, A3.out⟩
    · simp only [if_true] at hr
      have E3 := Lib.hid hr
      clear hr
      go_enter Tryd.func56, Tryd.ntmps56
      go_wp2_with fail
      refine (popen_ C b _ nv S H.out ⟨#[45]⟩ _ _ E1.out).mono ?_
      rintro e w1 ⟨rfl, nv1, k1, a1⟩
      have K1 := Lib.hid k1
      have A1 := Lib.hid a1
      clear k1 a1
      go_wp2_with fail
      refine (popen_ C b _ nv1 S1 K1.out ⟨#[33]⟩ _ _ E2.out).mono ?_
      rintro e w2 ⟨rfl, nv2, k2, a2⟩
      have K2 := Lib.hid k2
      have A2 := Lib.hid (A1.out.trans a2)
      clear k2 a2
      go_wp2_with fail
      refine (IH.ahead 8 b _ nv2 S2 _ _ K2.out E3.out).mono ?_
      rintro e w3 ⟨rfl, nv3, k3, a3⟩
      have K3 := Lib.hid k3
      have A3 := Lib.hid (A2.out.trans a3)
      clear k3 a3
      go_wp2_with fail
      go_ret
      exact ⟨rfl, nv3, K3.out, A3.out⟩
  · simp only [if_true] at hr
    have E2 := Lib.hid hr
    clear hr
    go_enter Tryd.func56, Tryd.ntmps56
    go_wp2_with fail
    refine (popen_ C b _ nv S H.out ⟨#[45]⟩ _ _ E1.out).mono ?_
    rintro e w1 ⟨rfl, nv1, k1, a1⟩
    have K1 := Lib.hid k1
    have A1 := Lib.hid a1
    clear k1 a1
    go_wp2_with fail
    refine (IH.ahead 9 b _ nv1 S1 _ _ K1.out E2.out).mono ?_
    rintro e w2 ⟨rfl, nv2, k2, a2⟩
    have K2 := Lib.hid k2
    have A2 := Lib.hid (A1.out.trans a2)
    clear k2 a2
    go_wp2_with fail
    go_ret
    exact ⟨rfl, nv2, K2.out, A2.out⟩
set_option maxHeartbeats 2000000 in
set_option maxRecDepth 20000 in
theorem qahead (IH : Grp C n) (k : Int) (v : Int) (S' : PS) (h : Pr C w b nv S) (hr : ev C.T (n + 1) (.ahead k) S = some ([v], S')) : Calls Tryd.prog 65 #[.pointer (some ⟨b, 0, none⟩), .int .i64 k] w (PPost C b nv w (.int .i64 v) S') := by
  have H := Lib.hid h
  clear h
  simp only [ev, Option.bind_eq_some_iff, Prod.exists] at hr
  obtain ⟨x, S1, h1, S2, h2, hr⟩ := hr
  have E1 := Lib.hid (one_eq h1)
  have E3 := Lib.hid hr
  clear h1 hr
  unfold downS at h2
  split at h2
  · rename_i hd
    simp only [Option.some.injEq] at h2
    subst h2
    obtain ⟨d0, d1⟩ := hd
    go_enter Tryd.func65, Tryd.ntmps65
    go_wp2_with fail
    refine (IH.un b _ nv S _ _ H.out E1.out).mono ?_
    rintro e w1 ⟨rfl, nv1, k1, a1⟩
    have K2 := Lib.hid (k1.setD (S1.d - 1))
    have A2 := Lib.hid (a1.trans (Turn.set b nv1 w1 4 (.int .i64 (S1.d - 1))))
    obtain ⟨-, -, -, -, h4⟩ := k1.cells
    have f4 := k1.free 4
    clear k1 a1
    go_upto_region 3 with fail
    generalize w1.setCell ⟨b, 4, none⟩ (.int .i64 (S1.d - 1)) = w2 at *
    clear h4 f4
    go_wp2_with fail
    refine (padd_kids C b w2 nv1 _ K2.out k 0 ⟨#[]⟩ [x] 1 #[.int .i64 x] rfl rfl (by omega) _ _ E3.out).mono ?_
    rintro e w3 ⟨rfl, nv3, k3, a3⟩
    have K3 := Lib.hid k3
    have A3 := Lib.hid (A2.out.trans a3)
    clear k3 a3
    go_wp2_with fail
    go_ret
    exact ⟨rfl, nv3, K3.out, A3.out⟩
  · simp at h2
set_option maxHeartbeats 2000000 in
set_option maxRecDepth 20000 in
theorem qnamed (IH : Grp C n) (x : ByteArray) (v : Int) (S' : PS) (h : Pr C w b nv S) (hr : ev C.T (n + 1) (.named x) S = some ([v], S')) : Calls Tryd.prog 79 #[.pointer (some ⟨b, 0, none⟩), .string x] w (PPost C b nv w (.int .i64 v) S') := by
  have H := Lib.hid h
  clear h
  simp only [ev] at hr
  by_cases x1 : x = ⟨#[116, 114, 117, 101]⟩
  · rw [if_pos x1] at hr
    have g1 : (x.toList == ([116, 114, 117, 101] : List UInt8)) = true := str_is x1
    have E1 := Lib.hid hr
    clear hr x1
    go_enter Tryd.func79, Tryd.ntmps79
    go_wp2_with fail
    refine (padd_leaf C b _ nv S H.out 3 1 ⟨#[]⟩ [] _ (no_parts _) _ _ E1.out).mono ?_
    rintro e w1 ⟨rfl, nv1, k1, a1⟩
    have K1 := Lib.hid k1
    have A1 := Lib.hid a1
    clear k1 a1
    go_wp2_with fail
    go_ret
    exact ⟨rfl, nv1, K1.out, A1.out⟩
  rw [if_neg x1] at hr
  have g1 : (x.toList == ([116, 114, 117, 101] : List UInt8)) = false := str_ne x1
  clear x1
  by_cases x2 : x = ⟨#[102, 97, 108, 115, 101]⟩
  · rw [if_pos x2] at hr
    have g2 : (x.toList == ([102, 97, 108, 115, 101] : List UInt8)) = true := str_is x2
    have E1 := Lib.hid hr
    clear hr x2
    go_enter Tryd.func79, Tryd.ntmps79
    go_wp2_with fail
    refine (padd_leaf C b _ nv S H.out 3 0 ⟨#[]⟩ [] _ (no_parts _) _ _ E1.out).mono ?_
    rintro e w1 ⟨rfl, nv1, k1, a1⟩
    have K1 := Lib.hid k1
    have A1 := Lib.hid a1
    clear k1 a1
    go_wp2_with fail
    go_ret
    exact ⟨rfl, nv1, K1.out, A1.out⟩
  rw [if_neg x2] at hr
  have g2 : (x.toList == ([102, 97, 108, 115, 101] : List UInt8)) = false := str_ne x2
  clear x2
  simp only [Option.bind_eq_some_iff, Prod.exists] at hr
  obtain ⟨o, S1, h1, hr⟩ := hr
  have E1 := Lib.hid h1
  clear h1
  cases o
  · simp only [Bool.false_eq_true, if_false, Option.bind_eq_some_iff, Prod.exists] at hr
    obtain ⟨S2, h2, y, S3, h3, hr⟩ := hr
    have E2 := Lib.hid h2
    have E3 := Lib.hid h3
    clear h2 h3
    split at hr
    · rename_i hz
      obtain ⟨z1, z2⟩ := hz
      have E4 := Lib.hid hr
      clear hr
      have z3 : (⟨#[46]⟩ : ByteArray).size = 1 := rfl
      go_enter Tryd.func79, Tryd.ntmps79
      go_wp2_with fail
      refine (popen_ C b _ nv S H.out ⟨#[40]⟩ _ _ E1.out).mono ?_
      rintro e w1 ⟨rfl, nv1, k1, a1⟩
      have K1 := Lib.hid k1
      have A1 := Lib.hid a1
      clear k1 a1
      go_wp2_with fail
      refine (pneed C b _ nv1 S1 K1.out ⟨#[46]⟩ _ E2.out).mono ?_
      rintro e w2 ⟨rfl, nv2, k2, a2⟩
      have K2 := Lib.hid k2
      have A2 := Lib.hid (A1.out.trans a2)
      clear k2 a2
      go_wp2_with fail
      refine (pname C b _ nv2 S2 K2.out _ _ E3.out).mono ?_
      rintro e w3 ⟨rfl, nv3, k3, a3⟩
      have K3 := Lib.hid k3
      have A3 := Lib.hid (A2.out.trans a3)
      clear k3 a3
      go_wp2_with fail
      refine (padd_leaf C b _ nv3 S3 K3.out 4 0 _ [] _ (no_parts _) _ _ E4.out).mono ?_
      rintro e w4 ⟨rfl, nv4, k4, a4⟩
      have K4 := Lib.hid k4
      have A4 := Lib.hid (A3.out.trans a4)
      clear k4 a4
      go_wp2_with fail
      go_ret
      exact ⟨rfl, nv4, K4.out, A4.out⟩
    · simp at hr
  · simp only [if_true, Option.bind_eq_some_iff, Prod.exists] at hr
    obtain ⟨ks, S2, h2, hr⟩ := hr
    have E2 := Lib.hid h2
    have E3 := Lib.hid hr
    clear h2 hr
    go_enter Tryd.func79, Tryd.ntmps79
    go_wp2_with fail
    refine (popen_ C b _ nv S H.out ⟨#[40]⟩ _ _ E1.out).mono ?_
    rintro e w1 ⟨rfl, nv1, k1, a1⟩
    have K1 := Lib.hid k1
    have A1 := Lib.hid a1
    clear k1 a1
    go_wp2_with fail
    refine (IH.list ⟨#[41]⟩ b _ nv1 S1 _ _ K1.out E2.out).mono ?_
    rintro e w2 ⟨kv, ⟨rfl, nv2, k2, a2⟩, ho, hx⟩
    obtain ⟨kao, kn, kcap, rfl⟩ := own_slice ho
    have K2 := Lib.hid k2
    have A2 := Lib.hid (A1.out.trans a2)
    have O2 := Lib.hid ho
    have X2 := Lib.hid hx
    clear k2 a2 ho hx
    go_wp2_with fail
    refine (padd_row C b _ nv2 S2 K2.out 5 0 x ks _ O2.out X2.out _ _ E3.out).mono ?_
    rintro e w3 ⟨rfl, nv3, k3, a3⟩
    have K3 := Lib.hid k3
    have A3 := Lib.hid (A2.out.trans a3)
    clear k3 a3
    go_wp2_with fail
    go_ret
    exact ⟨rfl, nv3, K3.out, A3.out⟩
end
end Go.Proofs.YtkbbhgipajhbnaaDoor
