/- Package parse's recursive methods, one step: prim; all of them; tree. -/
import Derived.Test.YtkbbhgipajhbnaaDoorParH
namespace Go.Proofs.YtkbbhgipajhbnaaDoor
open Go.RowKit
set_option linter.unusedVariables false
set_option linter.unusedSimpArgs false
section
variable (C : Ctx) (n : Nat) (b : Nat) (w : World) (nv : Value) (S : PS)
set_option maxHeartbeats 8000000 in
set_option maxRecDepth 20000 in
theorem qprim (IH : Grp C n) (v : Int) (S' : PS) (h : Pr C w b nv S) (hr : ev C.T (n + 1) .prim S = some ([v], S')) : Calls Tryd.prog 73 #[.pointer (some ⟨b, 0, none⟩)] w (PPost C b nv w (.int .i64 v) S') := by
  have H := Lib.hid h
  obtain ⟨t, ht⟩ := h.tok
  simp only [ev, ht, Option.bind_some] at hr
  have HT := Lib.hid ht
  have hfew := C.few
  have hat : (S.at_ : Int) ≤ 100000 := by have := h.lt; omega
  clear h ht hfew
  by_cases k1 : t.kind = 1
  · rw [if_pos k1] at hr
    have g1 : (t.kind == 1) = true := by simpa using k1
    clear k1
    simp only [Option.bind_eq_some_iff] at hr
    obtain ⟨S1, hs, hr⟩ := hr
    have E1 := Lib.hid hr
    clear hr
    unfold stepS at hs
    split at hs
    · rename_i hlt
      simp only [Option.some.injEq] at hs
      subst hs
      go_enter Tryd.func73, Tryd.ntmps73
      go_wp2_with fail
      refine (ppeek C b _ nv S H.out t HT.out).mono ?_
      rintro e w1 ⟨pv, rfl, hpv, hb⟩
      have HPV := Lib.hid hpv
      obtain ⟨pao, pcap, rfl, -⟩ := hpv
      have H1 := Lib.hid (H.out.below hb)
      have B1 := Lib.hid hb
      clear hb
      go_upto_region 2 with fail
      have B2 := Lib.hid (show Below w1.heap.size w1 (w1.alloc (.cells #[.int .i64 t.kind, .string t.text, .int .i64 t.num, .slice pao t.parts.length pcap, .int .i64 t.at_] 67)) from (Below.refl _ _).alloc (Nat.le_refl _) _)
      have T2 := Lib.hid (TokBlk.new w1 (.int .i64 t.kind) (.string t.text) (.int .i64 t.num) (.slice pao t.parts.length pcap) (.int .i64 t.at_))
      have H2 := Lib.hid (H1.out.below B2.out)
      have A2 := Lib.hid ((Turn.below (b := b) (nv := nv) B1.out).trans (Turn.below (b := b) (nv := nv) B2.out))
      have hne := Nat.ne_of_gt H1.out.hb
      generalize w1.alloc (.cells #[.int .i64 t.kind, .string t.text, .int .i64 t.num, .slice pao t.parts.length pcap, .int .i64 t.at_] 67) = w2 at *
      obtain ⟨r0, r1, r2, r3, r4⟩ := T2.out.cells
      generalize w1.heap.size = G at *
      obtain ⟨-, c1, -, -, -⟩ := H2.out.cells
      have f1 := H2.out.free 1
      have K3 := Lib.hid (show Pr C (w2.setCell ⟨b, 1, none⟩ (.int .i64 ((S.at_ : Int) + 1))) b nv ⟨S.at_ + 1, S.f, S.ns, S.d⟩ from H2.out.setAt (S.at_ + 1) hlt)
      have A3 := Lib.hid (A2.out.trans (Turn.set b nv w2 1 (.int .i64 ((S.at_ : Int) + 1))))
      have T3 := Lib.hid (show TokBlk (w2.setCell ⟨b, 1, none⟩ (.int .i64 ((S.at_ : Int) + 1))) G (.int .i64 t.kind) (.string t.text) (.int .i64 t.num) (.slice pao t.parts.length pcap) (.int .i64 t.at_) from (Below.heap_setCell _ _ _ _ hne).trans T2.out)
      go_upto_region 4 with fail
      generalize w2.setCell ⟨b, 1, none⟩ (.int .i64 ((S.at_ : Int) + 1)) = w3 at *
      clear r0 r1 r2 r3 r4 c1 f1
      obtain ⟨r0, r1, r2, r3, r4⟩ := T3.out.cells
      go_wp2_with fail
      refine (padd_leaf C b w3 nv _ K3.out 1 t.num ⟨#[]⟩ [] _ (no_parts _) _ _ E1.out).mono ?_
      rintro e w4 ⟨rfl, nv4, k4, a4⟩
      have K4 := Lib.hid k4
      have A4 := Lib.hid (A3.out.trans a4)
      clear k4 a4
      go_wp2_with fail
      go_ret
      exact ⟨rfl, nv4, K4.out, A4.out⟩
    · simp at hs
  rw [if_neg k1] at hr
  have g1 : (t.kind == 1) = false := by simpa using k1
  clear k1
  by_cases k2 : t.kind = 2
  · rw [if_pos k2] at hr
    have g2 : (t.kind == 2) = true := by simpa using k2
    clear k2
    simp only [Option.bind_eq_some_iff] at hr
    obtain ⟨S1, hs, hr⟩ := hr
    have E1 := Lib.hid hr
    clear hr
    unfold stepS at hs
    split at hs
    · rename_i hlt
      simp only [Option.some.injEq] at hs
      subst hs
      go_enter Tryd.func73, Tryd.ntmps73
      go_wp2_with fail
      refine (ppeek C b _ nv S H.out t HT.out).mono ?_
      rintro e w1 ⟨pv, rfl, hpv, hb⟩
      have HPV := Lib.hid hpv
      obtain ⟨pao, pcap, rfl, -⟩ := hpv
      have H1 := Lib.hid (H.out.below hb)
      have B1 := Lib.hid hb
      clear hb
      go_upto_region 2 with fail
      have B2 := Lib.hid (show Below w1.heap.size w1 (w1.alloc (.cells #[.int .i64 t.kind, .string t.text, .int .i64 t.num, .slice pao t.parts.length pcap, .int .i64 t.at_] 67)) from (Below.refl _ _).alloc (Nat.le_refl _) _)
      have T2 := Lib.hid (TokBlk.new w1 (.int .i64 t.kind) (.string t.text) (.int .i64 t.num) (.slice pao t.parts.length pcap) (.int .i64 t.at_))
      have H2 := Lib.hid (H1.out.below B2.out)
      have A2 := Lib.hid ((Turn.below (b := b) (nv := nv) B1.out).trans (Turn.below (b := b) (nv := nv) B2.out))
      have hne := Nat.ne_of_gt H1.out.hb
      generalize w1.alloc (.cells #[.int .i64 t.kind, .string t.text, .int .i64 t.num, .slice pao t.parts.length pcap, .int .i64 t.at_] 67) = w2 at *
      obtain ⟨r0, r1, r2, r3, r4⟩ := T2.out.cells
      generalize w1.heap.size = G at *
      obtain ⟨-, c1, -, -, -⟩ := H2.out.cells
      have f1 := H2.out.free 1
      have K3 := Lib.hid (show Pr C (w2.setCell ⟨b, 1, none⟩ (.int .i64 ((S.at_ : Int) + 1))) b nv ⟨S.at_ + 1, S.f, S.ns, S.d⟩ from H2.out.setAt (S.at_ + 1) hlt)
      have A3 := Lib.hid (A2.out.trans (Turn.set b nv w2 1 (.int .i64 ((S.at_ : Int) + 1))))
      have T3 := Lib.hid (show TokBlk (w2.setCell ⟨b, 1, none⟩ (.int .i64 ((S.at_ : Int) + 1))) G (.int .i64 t.kind) (.string t.text) (.int .i64 t.num) (.slice pao t.parts.length pcap) (.int .i64 t.at_) from (Below.heap_setCell _ _ _ _ hne).trans T2.out)
      go_upto_region 7 with fail
      generalize w2.setCell ⟨b, 1, none⟩ (.int .i64 ((S.at_ : Int) + 1)) = w3 at *
      clear r0 r1 r2 r3 r4 c1 f1
      obtain ⟨r0, r1, r2, r3, r4⟩ := T3.out.cells
      go_wp2_with fail
      refine (padd_leaf C b w3 nv _ K3.out 2 0 ⟨#[]⟩ t.parts _ HPV.out _ _ E1.out).mono ?_
      rintro e w4 ⟨rfl, nv4, k4, a4⟩
      have K4 := Lib.hid k4
      have A4 := Lib.hid (A3.out.trans a4)
      clear k4 a4
      go_wp2_with fail
      go_ret
      exact ⟨rfl, nv4, K4.out, A4.out⟩
    · simp at hs
  rw [if_neg k2] at hr
  have g2 : (t.kind == 2) = false := by simpa using k2
  clear k2
  by_cases k3 : t.kind = 3
  · rw [if_pos k3] at hr
    have g3 : (t.kind == 3) = true := by simpa using k3
    clear k3
    simp only [Option.bind_eq_some_iff] at hr
    obtain ⟨S1, hs, hr⟩ := hr
    have E1 := Lib.hid hr
    clear hr
    unfold stepS at hs
    split at hs
    · rename_i hlt
      simp only [Option.some.injEq] at hs
      subst hs
      go_enter Tryd.func73, Tryd.ntmps73
      go_wp2_with fail
      refine (ppeek C b _ nv S H.out t HT.out).mono ?_
      rintro e w1 ⟨pv, rfl, hpv, hb⟩
      have HPV := Lib.hid hpv
      obtain ⟨pao, pcap, rfl, -⟩ := hpv
      have H1 := Lib.hid (H.out.below hb)
      have B1 := Lib.hid hb
      clear hb
      go_upto_region 2 with fail
      have B2 := Lib.hid (show Below w1.heap.size w1 (w1.alloc (.cells #[.int .i64 t.kind, .string t.text, .int .i64 t.num, .slice pao t.parts.length pcap, .int .i64 t.at_] 67)) from (Below.refl _ _).alloc (Nat.le_refl _) _)
      have T2 := Lib.hid (TokBlk.new w1 (.int .i64 t.kind) (.string t.text) (.int .i64 t.num) (.slice pao t.parts.length pcap) (.int .i64 t.at_))
      have H2 := Lib.hid (H1.out.below B2.out)
      have A2 := Lib.hid ((Turn.below (b := b) (nv := nv) B1.out).trans (Turn.below (b := b) (nv := nv) B2.out))
      have hne := Nat.ne_of_gt H1.out.hb
      generalize w1.alloc (.cells #[.int .i64 t.kind, .string t.text, .int .i64 t.num, .slice pao t.parts.length pcap, .int .i64 t.at_] 67) = w2 at *
      obtain ⟨r0, r1, r2, r3, r4⟩ := T2.out.cells
      generalize w1.heap.size = G at *
      obtain ⟨-, c1, -, -, -⟩ := H2.out.cells
      have f1 := H2.out.free 1
      have K3 := Lib.hid (show Pr C (w2.setCell ⟨b, 1, none⟩ (.int .i64 ((S.at_ : Int) + 1))) b nv ⟨S.at_ + 1, S.f, S.ns, S.d⟩ from H2.out.setAt (S.at_ + 1) hlt)
      have A3 := Lib.hid (A2.out.trans (Turn.set b nv w2 1 (.int .i64 ((S.at_ : Int) + 1))))
      have T3 := Lib.hid (show TokBlk (w2.setCell ⟨b, 1, none⟩ (.int .i64 ((S.at_ : Int) + 1))) G (.int .i64 t.kind) (.string t.text) (.int .i64 t.num) (.slice pao t.parts.length pcap) (.int .i64 t.at_) from (Below.heap_setCell _ _ _ _ hne).trans T2.out)
      go_upto_region 10 with fail
      generalize w2.setCell ⟨b, 1, none⟩ (.int .i64 ((S.at_ : Int) + 1)) = w3 at *
      clear r0 r1 r2 r3 r4 c1 f1
      obtain ⟨r0, r1, r2, r3, r4⟩ := T3.out.cells
      go_wp2_with fail
      refine (IH.named t.text b w3 nv _ _ _ K3.out E1.out).mono ?_
      rintro e w4 ⟨rfl, nv4, k4, a4⟩
      have K4 := Lib.hid k4
      have A4 := Lib.hid (A3.out.trans a4)
      clear k4 a4
      go_wp2_with fail
      go_ret
      exact ⟨rfl, nv4, K4.out, A4.out⟩
    · simp at hs
  rw [if_neg k3] at hr
  have g3 : (t.kind == 3) = false := by simpa using k3
  clear k3
  simp only [Option.bind_eq_some_iff, Prod.exists] at hr
  obtain ⟨o, S1, h1, hr⟩ := hr
  have E1 := Lib.hid h1
  clear h1
  cases o
  · simp only [Bool.false_eq_true, if_false, Option.bind_eq_some_iff, Prod.exists] at hr
    obtain ⟨p, S2, h2, hr⟩ := hr
    have E2 := Lib.hid h2
    clear h2
    cases p
    · simp at hr
      obtain ⟨rfl, rfl⟩ := hr
      go_enter Tryd.func73, Tryd.ntmps73
      go_wp2_with fail
      refine (ppeek C b _ nv S H.out t HT.out).mono ?_
      rintro e w1 ⟨pv, rfl, hpv, hb⟩
      have HPV := Lib.hid hpv
      obtain ⟨pao, pcap, rfl, -⟩ := hpv
      have H1 := Lib.hid (H.out.below hb)
      have B1 := Lib.hid hb
      clear hb
      go_upto_region 2 with fail
      have B2 := Lib.hid (show Below w1.heap.size w1 (w1.alloc (.cells #[.int .i64 t.kind, .string t.text, .int .i64 t.num, .slice pao t.parts.length pcap, .int .i64 t.at_] 67)) from (Below.refl _ _).alloc (Nat.le_refl _) _)
      have T2 := Lib.hid (TokBlk.new w1 (.int .i64 t.kind) (.string t.text) (.int .i64 t.num) (.slice pao t.parts.length pcap) (.int .i64 t.at_))
      have H2 := Lib.hid (H1.out.below B2.out)
      have A2 := Lib.hid ((Turn.below (b := b) (nv := nv) B1.out).trans (Turn.below (b := b) (nv := nv) B2.out))
      have hne := Nat.ne_of_gt H1.out.hb
      generalize w1.alloc (.cells #[.int .i64 t.kind, .string t.text, .int .i64 t.num, .slice pao t.parts.length pcap, .int .i64 t.at_] 67) = w2 at *
      obtain ⟨r0, r1, r2, r3, r4⟩ := T2.out.cells
      generalize w1.heap.size = G at *
      go_wp2_with fail
      clear r0 r1 r2 r3 r4 hne
      refine (popen_ C b _ nv S H2.out ⟨#[91]⟩ _ _ E1.out).mono ?_
      rintro e w3 ⟨rfl, nv3, k3, a3⟩
      have K3 := Lib.hid k3
      have A3 := Lib.hid (A2.out.trans a3)
      clear k3 a3
      go_wp2_with fail
      refine (popen_ C b _ nv3 _ K3.out ⟨#[40]⟩ _ _ E2.out).mono ?_
      rintro e w4 ⟨rfl, nv4, k4, a4⟩
      have K4 := Lib.hid k4
      have A4 := Lib.hid (A3.out.trans a4)
      clear k4 a4
      go_wp2_with fail
      refine (pfail C b _ nv4 _ K4.out 5).mono ?_
      rintro e w5 ⟨rfl, nv5, k5, a5⟩
      have K5 := Lib.hid k5
      have A5 := Lib.hid (A4.out.trans a5)
      clear k5 a5
      go_wp2_with fail
      go_ret
      exact ⟨rfl, nv5, K5.out, A5.out⟩
    · simp only [if_true, Option.bind_eq_some_iff, Prod.exists] at hr
      obtain ⟨x, S3, h3, S4, h4, hr⟩ := hr
      simp at hr
      obtain ⟨rfl, rfl⟩ := hr
      have E3 := Lib.hid (one_eq h3)
      have E4 := Lib.hid h4
      clear h3 h4
      go_enter Tryd.func73, Tryd.ntmps73
      go_wp2_with fail
      refine (ppeek C b _ nv S H.out t HT.out).mono ?_
      rintro e w1 ⟨pv, rfl, hpv, hb⟩
      have HPV := Lib.hid hpv
      obtain ⟨pao, pcap, rfl, -⟩ := hpv
      have H1 := Lib.hid (H.out.below hb)
      have B1 := Lib.hid hb
      clear hb
      go_upto_region 2 with fail
      have B2 := Lib.hid (show Below w1.heap.size w1 (w1.alloc (.cells #[.int .i64 t.kind, .string t.text, .int .i64 t.num, .slice pao t.parts.length pcap, .int .i64 t.at_] 67)) from (Below.refl _ _).alloc (Nat.le_refl _) _)
      have T2 := Lib.hid (TokBlk.new w1 (.int .i64 t.kind) (.string t.text) (.int .i64 t.num) (.slice pao t.parts.length pcap) (.int .i64 t.at_))
      have H2 := Lib.hid (H1.out.below B2.out)
      have A2 := Lib.hid ((Turn.below (b := b) (nv := nv) B1.out).trans (Turn.below (b := b) (nv := nv) B2.out))
      have hne := Nat.ne_of_gt H1.out.hb
      generalize w1.alloc (.cells #[.int .i64 t.kind, .string t.text, .int .i64 t.num, .slice pao t.parts.length pcap, .int .i64 t.at_] 67) = w2 at *
      obtain ⟨r0, r1, r2, r3, r4⟩ := T2.out.cells
      generalize w1.heap.size = G at *
      go_wp2_with fail
      clear r0 r1 r2 r3 r4 hne
      refine (popen_ C b _ nv S H2.out ⟨#[91]⟩ _ _ E1.out).mono ?_
      rintro e w3 ⟨rfl, nv3, k3, a3⟩
      have K3 := Lib.hid k3
      have A3 := Lib.hid (A2.out.trans a3)
      clear k3 a3
      go_wp2_with fail
      refine (popen_ C b _ nv3 _ K3.out ⟨#[40]⟩ _ _ E2.out).mono ?_
      rintro e w4 ⟨rfl, nv4, k4, a4⟩
      have K4 := Lib.hid k4
      have A4 := Lib.hid (A3.out.trans a4)
      clear k4 a4
      go_wp2_with fail
      refine (IH.expr b _ nv4 _ _ _ K4.out E3.out).mono ?_
      rintro e w5 ⟨rfl, nv5, k5, a5⟩
      have K5 := Lib.hid k5
      have A5 := Lib.hid (A4.out.trans a5)
      clear k5 a5
      go_wp2_with fail
      refine (pclose C b _ nv5 _ K5.out ⟨#[41]⟩ _ E4.out).mono ?_
      rintro e w6 ⟨rfl, nv6, k6, a6⟩
      have K6 := Lib.hid k6
      have A6 := Lib.hid (A5.out.trans a6)
      clear k6 a6
      go_wp2_with fail
      go_ret
      exact ⟨rfl, nv6, K6.out, A6.out⟩
  · simp only [if_true, Option.bind_eq_some_iff, Prod.exists] at hr
    obtain ⟨ks, S2, h2, hr⟩ := hr
    have E2 := Lib.hid h2
    have E3 := Lib.hid hr
    clear h2 hr
    go_enter Tryd.func73, Tryd.ntmps73
    go_wp2_with fail
    refine (ppeek C b _ nv S H.out t HT.out).mono ?_
    rintro e w1 ⟨pv, rfl, hpv, hb⟩
    have HPV := Lib.hid hpv
    obtain ⟨pao, pcap, rfl, -⟩ := hpv
    have H1 := Lib.hid (H.out.below hb)
    have B1 := Lib.hid hb
    clear hb
    go_upto_region 2 with fail
    have B2 := Lib.hid (show Below w1.heap.size w1 (w1.alloc (.cells #[.int .i64 t.kind, .string t.text, .int .i64 t.num, .slice pao t.parts.length pcap, .int .i64 t.at_] 67)) from (Below.refl _ _).alloc (Nat.le_refl _) _)
    have T2 := Lib.hid (TokBlk.new w1 (.int .i64 t.kind) (.string t.text) (.int .i64 t.num) (.slice pao t.parts.length pcap) (.int .i64 t.at_))
    have H2 := Lib.hid (H1.out.below B2.out)
    have A2 := Lib.hid ((Turn.below (b := b) (nv := nv) B1.out).trans (Turn.below (b := b) (nv := nv) B2.out))
    have hne := Nat.ne_of_gt H1.out.hb
    generalize w1.alloc (.cells #[.int .i64 t.kind, .string t.text, .int .i64 t.num, .slice pao t.parts.length pcap, .int .i64 t.at_] 67) = w2 at *
    obtain ⟨r0, r1, r2, r3, r4⟩ := T2.out.cells
    generalize w1.heap.size = G at *
    go_wp2_with fail
    clear r0 r1 r2 r3 r4 hne
    refine (popen_ C b _ nv S H2.out ⟨#[91]⟩ _ _ E1.out).mono ?_
    rintro e w3 ⟨rfl, nv3, k3, a3⟩
    have K3 := Lib.hid k3
    have A3 := Lib.hid (A2.out.trans a3)
    clear k3 a3
    go_wp2_with fail
    refine (IH.list ⟨#[93]⟩ b _ nv3 _ _ _ K3.out E2.out).mono ?_
    rintro e w4 ⟨kv, ⟨rfl, nv4, k4, a4⟩, ho, hx⟩
    obtain ⟨kao, kn, kcap, rfl⟩ := own_slice ho
    have K4 := Lib.hid k4
    have A4 := Lib.hid (A3.out.trans a4)
    have O4 := Lib.hid ho
    have X4 := Lib.hid hx
    clear k4 a4 ho hx
    go_wp2_with fail
    refine (padd_row C b _ nv4 _ K4.out 6 0 ⟨#[]⟩ ks _ O4.out X4.out _ _ E3.out).mono ?_
    rintro e w5 ⟨rfl, nv5, k5, a5⟩
    have K5 := Lib.hid k5
    have A5 := Lib.hid (A4.out.trans a5)
    clear k5 a5
    go_wp2_with fail
    go_ret
    exact ⟨rfl, nv5, K5.out, A5.out⟩
end
/-- All of them, for as many steps as one likes. -/
theorem Grp.all : ∀ n C, Grp C n := by
  intro n
  induction n using Nat.strongRecOn with
  | _ n ih =>
    intro C
    cases n with
    | zero => exact Grp.zero C
    | succ n =>
      have IH : ∀ m, m ≤ n → ∀ C, Grp C m := fun m hm C => ih m (Nat.lt_succ_of_le hm) C
      exact ⟨fun b w nv S v S' h hr => qexpr C n b w nv S (IH n (Nat.le_refl n) C) v S' h hr,
        fun r b w nv S v S' h0 h6 h hr => qbin C n b w nv S (fun m hm => IH m hm C) r v S' h0 h6 h hr,
        fun b w nv S v S' h hr => qun C n b w nv S (IH n (Nat.le_refl n) C) v S' h hr,
        fun k b w nv S v S' h hr => qahead C n b w nv S (IH n (Nat.le_refl n) C) k v S' h hr,
        fun b w nv S v S' h hr => qpost C n b w nv S (fun m hm => IH m hm C) v S' h hr,
        fun b w nv S v S' h hr => qprim C n b w nv S (IH n (Nat.le_refl n) C) v S' h hr,
        fun x b w nv S v S' h hr => qnamed C n b w nv S (IH n (Nat.le_refl n) C) x v S' h hr,
        fun e b w nv S ks S' h hr => qlist C n b w nv S (fun m hm X => IH m hm (C.out X)) e ks S' h hr⟩
end Go.Proofs.YtkbbhgipajhbnaaDoor
