/- Declared trees by numbers: the law of WantMade. -/
import Derived.Test.YtmiadhcmhnjmfaaWnL
import Derived.Test.YtmiadhcmhnjmfaaWnG
namespace Go.Proofs.Ytmiadhcmhnjmfaa
open Go.RowKit
set_option linter.unusedVariables false
set_option linter.unusedSimpArgs false
section
variable (w : World)
set_option maxHeartbeats 8000000 in
set_option maxRecDepth 100000 in
theorem law_wantmade (CK : CkP) (DP : DpP) (TP : TpP) (ns : List Int) (nv : Value) (clash : Bool) (q : Int) (h : NumsRd .u8 w nv ns) (hr : ∀ x ∈ ns, 0 ≤ x ∧ x ≤ 255) (hl : ns.length ≤ maxLen) (hq : 0 ≤ q ∧ q ≤ 255) :
    Calls Try.prog 4 #[nv, .bool clash, .int .u8 q] w (Made (.bool true) w) := by
  have H := Lib.hid h
  have HR := Lib.hid hr
  have AW := Lib.hid (fun W => law11_awake W CK DP TP)
  unfold maxLen at hl
  obtain ⟨ao, cap, rfl, _⟩ := h
  clear hr
  by_cases hb : 60 < ns.length
  · have hb' : (60 : Int) < (ns.length : Int) := by omega
    go_enter Try.func4, Try.ntmps4
    go_wp2_with fail
    with_reducible refine (AW.out _).mono ?_
    rintro e w2 ⟨rfl, hb2⟩
    go_wp2_with fail
    go_ret
    exact ⟨rfl, hb2⟩
  · have hb' : ¬ (60 : Int) < (ns.length : Int) := by omega
    have MK := Lib.hid (lmakeW w ns _ clash H.out HR.out (by omega))
    have hc24 : cntM ns ≤ 24 := by unfold cntM; omega
    have HC := Lib.hid hc24
    have LN := Lib.hid (makeM_len ns clash (cntM ns)).1
    have FT := Lib.hid (make_fit ns clash hc24)
    have SZ := Lib.hid (make_size ns clash (cntM ns))
    have C0 := Lib.hid (show clash = false → checkL (makeM ns clash (cntM ns)).1 = 0 from fun e => by subst e; exact make_check ns hc24)
    clear hc24
    go_enter Try.func4, Try.ntmps4
    go_wp2_with fail
    with_reducible refine MK.out.mono ?_
    rintro e w1 ⟨v1, rfl, hb1, ho1⟩
    have B1 := Lib.hid hb1
    have R1 := Lib.hid (wrow_of_own ho1)
    clear hb1 ho1 H HR MK
    generalize (makeM ns clash (cntM ns)).1 = l at *
    have hlen : l.length ≤ 24 := by rw [LN.out]; exact HC.out
    obtain ⟨lo, lc, rfl⟩ := R1.out.shape
    obtain ⟨cc, hcc⟩ : ∃ cc : UInt8, cc = UInt8.ofNat (97 + q.toNat % 26) := ⟨_, rfl⟩
    have CV := Lib.hid (fun W => ddig_conv W (97 + q % 26) cc (by
      rw [hcc, UInt8.toNat_ofNat']
      rw [show (97 + q.toNat % 26) % 2 ^ 8 = 97 + q.toNat % 26 by omega]
      push_cast
      rw [Int.toNat_of_nonneg hq.1]))
    clear hcc
    have wc : IntKind.u8.wrap (97 + q % 26) = 97 + q % 26 := by rw [IntKind.wrap_u8]; omega
    have RC := Lib.hid (fun W (hW : Below w1.heap.size w1 W) => rcheck W l _ (R1.out.below hW) (fun u hu => (SZ.out u hu).1))
    have CC := Lib.hid (fun W (hW : Below w1.heap.size w1 W) => CK W l _ (R1.out.below hW) SZ.out (by omega))
    have DD := Lib.hid (fun W (hW : Below w1.heap.size w1 W) => DP W l _ ⟨#[cc]⟩ (R1.out.below hW) SZ.out (show (1 : Nat) ≤ 1000000 by omega) FT.out)
    have RD := Lib.hid (fun W (hW : Below w1.heap.size w1 W) => rdepth W l _ (R1.out.below hW) (by omega) ⟨#[cc]⟩)
    have TT := Lib.hid (fun W (hW : Below w1.heap.size w1 W) => TP W l _ (R1.out.below hW) SZ.out FT.out)
    have RT := Lib.hid (fun W (hW : Below w1.heap.size w1 W) => rtop W l _ (R1.out.below hW) (by omega))
    generalize checkL l = c at *
    generalize depthL l ⟨#[cc]⟩ = d at *
    have cv := CV.out w1
    go_wp2_with fail
    have BA := Lib.hid (below_al (Below.refl w1.heap.size w1) (.cells #[.int .u8 (97 + q % 26)] 5))
    clear cv
    generalize w1.alloc (.cells #[.int .u8 (97 + q % 26)] 5) = wa at *
    (with_reducible refine (CC.out _ BA.out).mono ?_)
    rintro e w2 ⟨rfl, hb2⟩
    have B2 := Lib.hid (below_tr BA.out hb2)
    clear hb2
    go_wp2_with fail
    with_reducible refine (lnumE _ _).mono ?_
    rintro e w3 ⟨rfl, rfl⟩
    go_wp2_with fail
    (with_reducible refine (RC.out _ B2.out).mono ?_)
    rintro e w4 ⟨rfl, hb4⟩
    have B4 := Lib.hid (below_tr B2.out hb4)
    clear hb4
    have ec : (clash = true) ∨ (clash = false ∧ c = 0) := by
      cases clash
      · exact .inr ⟨rfl, C0.out rfl⟩
      · exact .inl rfl
    rcases ec with rfl | ⟨rfl, rfl⟩
    all_goals
      go_wp2_with fail
      (with_reducible refine (DD.out _ B4.out).mono ?_)
      rintro e w5 ⟨rfl, hb5⟩
      have B5 := Lib.hid (below_tr B4.out hb5)
      clear hb5
      go_wp2_with fail
      (with_reducible refine (RD.out _ B5.out).mono ?_)
      rintro e w6 ⟨rfl, rfl⟩
      go_wp2_with fail
      (with_reducible refine (TT.out _ B5.out).mono ?_)
      rintro e w6 ⟨v6, rfl, hb6, ho6⟩
      have B6 := Lib.hid (below_tr B5.out hb6)
      have O6 := Lib.hid (wrow_of_own ho6)
      clear hb6 ho6
      go_wp2_with fail
      (with_reducible refine (RT.out _ B6.out).mono ?_)
      rintro e w7 ⟨v7, rfl, hb7, ho7⟩
      have B7 := Lib.hid (below_tr B6.out hb7)
      have O7 := Lib.hid (wrow_of_own ho7)
      have O6a := Lib.hid (O6.out.below hb7)
      clear hb7 ho7
      go_wp2_with fail
      (refine (psameWants _ _ _ _ O6a.out O7.out).mono ?_)
      rintro e w8 ⟨rfl, hb8⟩
      have B8 := Lib.hid (below_tr B7.out hb8)
      clear hb8
      go_wp2_with fail
      with_reducible refine (AW.out _).mono ?_
      rintro e w9 ⟨rfl, hb9⟩
      go_wp2_with fail
      go_ret
      exact ⟨rfl, below_tr B1.out (below_tr B8.out hb9)⟩
end
end Go.Proofs.Ytmiadhcmhnjmfaa
