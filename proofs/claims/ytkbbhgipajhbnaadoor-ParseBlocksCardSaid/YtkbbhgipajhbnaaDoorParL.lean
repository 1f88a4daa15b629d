/- Package parse's reader of blocks: labels. -/
import Derived.Test.YtkbbhgipajhbnaaDoorParK
namespace Go.Proofs.YtkbbhgipajhbnaaDoor
open Go.RowKit
set_option linter.unusedVariables false
set_option linter.unusedSimpArgs false
section
variable (C : Ctx) (b : Nat) (w : World) (nv : Value) (S : PS)
set_option maxHeartbeats 4000000 in
set_option maxRecDepth 20000 in
theorem plabel (h : Pr C w b nv S) (x : ByteArray) (S' : PS) (hr : labelE C.T S = some (x, S')) :
    Calls Tryd.prog 36 #[.pointer (some ⟨b, 0, none⟩)] w (P0 C b nv w (.string x) S') := by
  have H := Lib.hid h
  obtain ⟨t, ht⟩ := h.tok
  simp only [labelE, ht, Option.bind_some] at hr
  have HT := Lib.hid ht
  have hfew := C.few
  have hat : (S.at_ : Int) ≤ 100000 := by have := h.lt; omega
  clear h ht hfew
  by_cases k2 : t.kind = 2
  · rw [if_pos k2] at hr
    have g2 : (t.kind != 2) = false := by simpa using k2
    clear k2
    generalize hps : t.parts = ps at *
    match ps, hps, hr with
    | [], hps, hr =>
      simp at hr
      obtain ⟨rfl, rfl⟩ := hr
      go_enter Tryd.func36, Tryd.ntmps36
      go_wp2_with fail
      refine (ppeek C b _ nv S H.out t HT.out).mono ?_
      rintro e w1 ⟨pv, rfl, hpv, hb⟩
      have HPV := Lib.hid hpv
      obtain ⟨pao, pcap, rfl, -⟩ := hpv
      rw [hps] at *; generalize hpn : ([] : List PartL).length = pn at *; have hp1 : ((pn : Int) != 1) = true := by rw [← hpn]; rfl
      have H1 := Lib.hid (H.out.below hb)
      have B1 := Lib.hid hb
      clear hb
      go_upto_region 2 with fail
      have B2 := Lib.hid (show Below w1.heap.size w1 (w1.alloc (.cells #[.int .i64 t.kind, .string t.text, .int .i64 t.num, .slice pao pn pcap, .int .i64 t.at_] 67)) from (Below.refl _ _).alloc (Nat.le_refl _) _)
      have T2 := Lib.hid (TokBlk.new w1 (.int .i64 t.kind) (.string t.text) (.int .i64 t.num) (.slice pao pn pcap) (.int .i64 t.at_))
      have H2 := Lib.hid (H1.out.below B2.out)
      have A2 := Lib.hid ((Turn.below (b := b) (nv := nilv) B1.out).trans (Turn.below (b := b) (nv := nilv) B2.out))
      have hne := Nat.ne_of_gt H1.out.hb
      generalize w1.alloc (.cells #[.int .i64 t.kind, .string t.text, .int .i64 t.num, .slice pao pn pcap, .int .i64 t.at_] 67) = w2 at *
      obtain ⟨r0, r1, r2, r3, r4⟩ := T2.out.cells
      generalize w1.heap.size = G at *
      clear hpn hps
      go_wp2_with fail
      refine (pfail0 C b _ nv S H2.out 5).mono ?_
      rintro e w3 ⟨rfl, k3, a3⟩
      have K3 := Lib.hid k3
      have A3 := Lib.hid (A2.out.trans a3)
      clear k3 a3
      go_wp2_with fail
      go_ret
      exact ⟨rfl, K3.out, A3.out⟩
    | p :: q :: l, hps, hr =>
      simp at hr
      obtain ⟨rfl, rfl⟩ := hr
      go_enter Tryd.func36, Tryd.ntmps36
      go_wp2_with fail
      refine (ppeek C b _ nv S H.out t HT.out).mono ?_
      rintro e w1 ⟨pv, rfl, hpv, hb⟩
      have HPV := Lib.hid hpv
      obtain ⟨pao, pcap, rfl, -⟩ := hpv
      rw [hps] at *; generalize hpn : (p :: q :: l).length = pn at *; have hp1 : ((pn : Int) != 1) = true := by rw [← hpn]; simp; omega
      have H1 := Lib.hid (H.out.below hb)
      have B1 := Lib.hid hb
      clear hb
      go_upto_region 2 with fail
      have B2 := Lib.hid (show Below w1.heap.size w1 (w1.alloc (.cells #[.int .i64 t.kind, .string t.text, .int .i64 t.num, .slice pao pn pcap, .int .i64 t.at_] 67)) from (Below.refl _ _).alloc (Nat.le_refl _) _)
      have T2 := Lib.hid (TokBlk.new w1 (.int .i64 t.kind) (.string t.text) (.int .i64 t.num) (.slice pao pn pcap) (.int .i64 t.at_))
      have H2 := Lib.hid (H1.out.below B2.out)
      have A2 := Lib.hid ((Turn.below (b := b) (nv := nilv) B1.out).trans (Turn.below (b := b) (nv := nilv) B2.out))
      have hne := Nat.ne_of_gt H1.out.hb
      generalize w1.alloc (.cells #[.int .i64 t.kind, .string t.text, .int .i64 t.num, .slice pao pn pcap, .int .i64 t.at_] 67) = w2 at *
      obtain ⟨r0, r1, r2, r3, r4⟩ := T2.out.cells
      generalize w1.heap.size = G at *
      clear hpn hps
      go_wp2_with fail
      refine (pfail0 C b _ nv S H2.out 5).mono ?_
      rintro e w3 ⟨rfl, k3, a3⟩
      have K3 := Lib.hid k3
      have A3 := Lib.hid (A2.out.trans a3)
      clear k3 a3
      go_wp2_with fail
      go_ret
      exact ⟨rfl, K3.out, A3.out⟩
    | [(true, y)], hps, hr =>
      simp at hr
      obtain ⟨rfl, rfl⟩ := hr
      go_enter Tryd.func36, Tryd.ntmps36
      go_wp2_with fail
      refine (ppeek C b _ nv S H.out t HT.out).mono ?_
      rintro e w1 ⟨pv, rfl, hpv, hb⟩
      have HPV := Lib.hid hpv
      obtain ⟨pao, pcap, rfl, -⟩ := hpv
      rw [hps] at *
      have H1 := Lib.hid (H.out.below hb)
      have B1 := Lib.hid hb
      clear hb
      go_upto_region 2 with fail
      have B2 := Lib.hid (show Below w1.heap.size w1 (w1.alloc (.cells #[.int .i64 t.kind, .string t.text, .int .i64 t.num, .slice pao ([(true, y)] : List PartL).length pcap, .int .i64 t.at_] 67)) from (Below.refl _ _).alloc (Nat.le_refl _) _)
      have T2 := Lib.hid (TokBlk.new w1 (.int .i64 t.kind) (.string t.text) (.int .i64 t.num) (.slice pao ([(true, y)] : List PartL).length pcap) (.int .i64 t.at_))
      have H2 := Lib.hid (H1.out.below B2.out)
      have A2 := Lib.hid ((Turn.below (b := b) (nv := nilv) B1.out).trans (Turn.below (b := b) (nv := nilv) B2.out))
      have hne := Nat.ne_of_gt H1.out.hb
      generalize w1.alloc (.cells #[.int .i64 t.kind, .string t.text, .int .i64 t.num, .slice pao ([(true, y)] : List PartL).length pcap, .int .i64 t.at_] 67) = w2 at *
      obtain ⟨r0, r1, r2, r3, r4⟩ := T2.out.cells
      generalize w1.heap.size = G at *
      have hq := HPV.out
      obtain ⟨ao', cap', he', hc'⟩ := hq
      simp at he'
      obtain ⟨rfl, rfl⟩ := he'
      obtain ⟨pg, po, rfl, hd0⟩ := hc' 0 (.bool true) (by simp [partCells])
      obtain ⟨pg2, po2, hpe, hd1⟩ := hc' 1 (.string y) (by simp [partCells])
      simp at hpe
      obtain ⟨rfl, rfl⟩ := hpe
      clear hc'
      have d0 := (H2.out.old.cell (p := ⟨pg, po + 0, none⟩) (World.block_lt_of_cell? _ _ hd0)).trans hd0
      have d1 := (H2.out.old.cell (p := ⟨pg, po + 1, none⟩) (World.block_lt_of_cell? _ _ hd1)).trans hd1
      clear hd0 hd1
      simp only [Nat.add_zero] at d0
      go_wp2_with fail
      refine (pfail0 C b _ nv S H2.out 5).mono ?_
      rintro e w3 ⟨rfl, k3, a3⟩
      have K3 := Lib.hid k3
      have A3 := Lib.hid (A2.out.trans a3)
      clear k3 a3
      go_wp2_with fail
      go_ret
      exact ⟨rfl, K3.out, A3.out⟩
    | [(false, y)], hps, hr =>
      simp only at hr
      split at hr
      · rename_i hsz
        have HZ := Lib.hid (show y.size ≤ maxLen by unfold maxLen; omega)
        clear hsz
        cases hl : labelB y
        · rw [hl] at hr
          simp at hr
          obtain ⟨rfl, rfl⟩ := hr
          have HL := Lib.hid hl
          clear hl
          go_enter Tryd.func36, Tryd.ntmps36
          go_wp2_with fail
          refine (ppeek C b _ nv S H.out t HT.out).mono ?_
          rintro e w1 ⟨pv, rfl, hpv, hb⟩
          have HPV := Lib.hid hpv
          obtain ⟨pao, pcap, rfl, -⟩ := hpv
          rw [hps] at *
          have H1 := Lib.hid (H.out.below hb)
          have B1 := Lib.hid hb
          clear hb
          go_upto_region 2 with fail
          have B2 := Lib.hid (show Below w1.heap.size w1 (w1.alloc (.cells #[.int .i64 t.kind, .string t.text, .int .i64 t.num, .slice pao ([(false, y)] : List PartL).length pcap, .int .i64 t.at_] 67)) from (Below.refl _ _).alloc (Nat.le_refl _) _)
          have T2 := Lib.hid (TokBlk.new w1 (.int .i64 t.kind) (.string t.text) (.int .i64 t.num) (.slice pao ([(false, y)] : List PartL).length pcap) (.int .i64 t.at_))
          have H2 := Lib.hid (H1.out.below B2.out)
          have A2 := Lib.hid ((Turn.below (b := b) (nv := nilv) B1.out).trans (Turn.below (b := b) (nv := nilv) B2.out))
          have hne := Nat.ne_of_gt H1.out.hb
          generalize w1.alloc (.cells #[.int .i64 t.kind, .string t.text, .int .i64 t.num, .slice pao ([(false, y)] : List PartL).length pcap, .int .i64 t.at_] 67) = w2 at *
          obtain ⟨r0, r1, r2, r3, r4⟩ := T2.out.cells
          generalize w1.heap.size = G at *
          have hq := HPV.out
          obtain ⟨ao', cap', he', hc'⟩ := hq
          simp at he'
          obtain ⟨rfl, rfl⟩ := he'
          obtain ⟨pg, po, rfl, hd0⟩ := hc' 0 (.bool false) (by simp [partCells])
          obtain ⟨pg2, po2, hpe, hd1⟩ := hc' 1 (.string y) (by simp [partCells])
          simp at hpe
          obtain ⟨rfl, rfl⟩ := hpe
          clear hc'
          have d0 := (H2.out.old.cell (p := ⟨pg, po + 0, none⟩) (World.block_lt_of_cell? _ _ hd0)).trans hd0
          have d1 := (H2.out.old.cell (p := ⟨pg, po + 1, none⟩) (World.block_lt_of_cell? _ _ hd1)).trans hd1
          clear hd0 hd1
          simp only [Nat.add_zero] at d0
          go_wp2_with fail
          refine (label_any y _ HZ.out).mono ?_
          rw [HL.out]
          rintro e w3 ⟨rfl, hb3⟩
          have H3 := Lib.hid (H2.out.below hb3)
          have A3 := Lib.hid (A2.out.trans (Turn.below (b := b) (nv := nilv) hb3))
          clear hb3
          go_wp2_with fail
          refine (pfail0 C b _ nv S H3.out 5).mono ?_
          rintro e w4 ⟨rfl, k4, a4⟩
          have K4 := Lib.hid k4
          have A4 := Lib.hid (A3.out.trans a4)
          clear k4 a4
          go_wp2_with fail
          go_ret
          exact ⟨rfl, K4.out, A4.out⟩
        · rw [hl] at hr
          simp only [if_true, Option.bind_eq_some_iff] at hr
          obtain ⟨S1, hs, hr⟩ := hr
          simp at hr
          obtain ⟨rfl, rfl⟩ := hr
          have HL := Lib.hid hl
          clear hl
          unfold stepS at hs
          split at hs
          · rename_i hlt
            simp only [Option.some.injEq] at hs
            subst hs
            have HLT := Lib.hid hlt
            clear hlt
            go_enter Tryd.func36, Tryd.ntmps36
            go_wp2_with fail
            refine (ppeek C b _ nv S H.out t HT.out).mono ?_
            rintro e w1 ⟨pv, rfl, hpv, hb⟩
            have HPV := Lib.hid hpv
            obtain ⟨pao, pcap, rfl, -⟩ := hpv
            rw [hps] at *
            have H1 := Lib.hid (H.out.below hb)
            have B1 := Lib.hid hb
            clear hb
            go_upto_region 2 with fail
            have B2 := Lib.hid (show Below w1.heap.size w1 (w1.alloc (.cells #[.int .i64 t.kind, .string t.text, .int .i64 t.num, .slice pao ([(false, y)] : List PartL).length pcap, .int .i64 t.at_] 67)) from (Below.refl _ _).alloc (Nat.le_refl _) _)
            have T2 := Lib.hid (TokBlk.new w1 (.int .i64 t.kind) (.string t.text) (.int .i64 t.num) (.slice pao ([(false, y)] : List PartL).length pcap) (.int .i64 t.at_))
            have H2 := Lib.hid (H1.out.below B2.out)
            have A2 := Lib.hid ((Turn.below (b := b) (nv := nilv) B1.out).trans (Turn.below (b := b) (nv := nilv) B2.out))
            have hne := Nat.ne_of_gt H1.out.hb
            generalize w1.alloc (.cells #[.int .i64 t.kind, .string t.text, .int .i64 t.num, .slice pao ([(false, y)] : List PartL).length pcap, .int .i64 t.at_] 67) = w2 at *
            obtain ⟨r0, r1, r2, r3, r4⟩ := T2.out.cells
            generalize w1.heap.size = G at *
            have hq := HPV.out
            obtain ⟨ao', cap', he', hc'⟩ := hq
            simp at he'
            obtain ⟨rfl, rfl⟩ := he'
            obtain ⟨pg, po, rfl, hd0⟩ := hc' 0 (.bool false) (by simp [partCells])
            obtain ⟨pg2, po2, hpe, hd1⟩ := hc' 1 (.string y) (by simp [partCells])
            simp at hpe
            obtain ⟨rfl, rfl⟩ := hpe
            clear hc'
            have d0 := (H2.out.old.cell (p := ⟨pg, po + 0, none⟩) (World.block_lt_of_cell? _ _ hd0)).trans hd0
            have d1 := (H2.out.old.cell (p := ⟨pg, po + 1, none⟩) (World.block_lt_of_cell? _ _ hd1)).trans hd1
            clear hd0 hd1
            simp only [Nat.add_zero] at d0
            go_wp2_with fail
            refine (label_any y _ HZ.out).mono ?_
            rw [HL.out]
            rintro e w3 ⟨rfl, hb3⟩
            have H3 := Lib.hid (H2.out.below hb3)
            have A3 := Lib.hid (A2.out.trans (Turn.below (b := b) (nv := nilv) hb3))
            have e0 := (hb3.cell (p := ⟨pg, po, none⟩) (World.block_lt_of_cell? _ _ d0)).trans d0
            have e1 := (hb3.cell (p := ⟨pg, po + 1, none⟩) (World.block_lt_of_cell? _ _ d1)).trans d1
            have T3 := Lib.hid (T2.out.below hb3)
            have PB := Lib.hid (show pg ≠ b by
              have h1 := H2.out.le
              have h2 := World.block_lt_of_cell? _ _ (show C.w0.cell? ⟨pg, po, none⟩ = some (.bool false) from by
                obtain ⟨ao'', cap'', he'', hc''⟩ := HPV.out
                simp at he''
                obtain ⟨rfl, rfl⟩ := he''
                obtain ⟨pg3, po3, hpe3, hd3⟩ := hc'' 0 (.bool false) (by simp [partCells])
                simp at hpe3
                obtain ⟨rfl, rfl⟩ := hpe3
                simpa using hd3)
              simp at h2
              omega)
            clear hb3 d0 d1 r0 r1 r2 r3 r4
            obtain ⟨r0, r1, r2, r3, r4⟩ := T3.out.cells
            obtain ⟨-, c1, -, -, -⟩ := H3.out.cells
            have f1 := H3.out.free 1
            have pb := PB.out
            go_wp2_with fail
            have K := Lib.hid (H3.out.setAt (S.at_ + 1) HLT.out)
            have A := Lib.hid (A3.out.trans (Turn.set b nilv w3 1 (.int .i64 ((S.at_ + 1 : Nat) : Int))))
            go_ret
            exact ⟨rfl, K.out, A.out⟩
          · simp at hs
      · simp at hr
  · rw [if_neg k2] at hr
    simp at hr
    obtain ⟨rfl, rfl⟩ := hr
    have g2 : (t.kind != 2) = true := by simpa using k2
    clear k2
    go_enter Tryd.func36, Tryd.ntmps36
    go_wp2_with fail
    refine (ppeek C b _ nv S H.out t HT.out).mono ?_
    rintro e w1 ⟨pv, rfl, hpv, hb⟩
    have HPV := Lib.hid hpv
    obtain ⟨pao, pcap, rfl, -⟩ := hpv
    generalize hpn : t.parts.length = pn at *
    have H1 := Lib.hid (H.out.below hb)
    have B1 := Lib.hid hb
    clear hb
    go_upto_region 2 with fail
    have B2 := Lib.hid (show Below w1.heap.size w1 (w1.alloc (.cells #[.int .i64 t.kind, .string t.text, .int .i64 t.num, .slice pao pn pcap, .int .i64 t.at_] 67)) from (Below.refl _ _).alloc (Nat.le_refl _) _)
    have T2 := Lib.hid (TokBlk.new w1 (.int .i64 t.kind) (.string t.text) (.int .i64 t.num) (.slice pao pn pcap) (.int .i64 t.at_))
    have H2 := Lib.hid (H1.out.below B2.out)
    have A2 := Lib.hid ((Turn.below (b := b) (nv := nilv) B1.out).trans (Turn.below (b := b) (nv := nilv) B2.out))
    have hne := Nat.ne_of_gt H1.out.hb
    generalize w1.alloc (.cells #[.int .i64 t.kind, .string t.text, .int .i64 t.num, .slice pao pn pcap, .int .i64 t.at_] 67) = w2 at *
    obtain ⟨r0, r1, r2, r3, r4⟩ := T2.out.cells
    generalize w1.heap.size = G at *
    go_wp2_with fail
    refine (pfail0 C b _ nv S H2.out 5).mono ?_
    rintro e w3 ⟨rfl, k3, a3⟩
    have K3 := Lib.hid k3
    have A3 := Lib.hid (A2.out.trans a3)
    clear k3 a3
    go_wp2_with fail
    go_ret
    exact ⟨rfl, K3.out, A3.out⟩
end
end Go.Proofs.YtkbbhgipajhbnaaDoor
