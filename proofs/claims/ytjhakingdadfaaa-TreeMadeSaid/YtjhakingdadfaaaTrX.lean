/- The law of package tree: each is below one. -/
import Derived.Test.YtjhakingdadfaaaTrW
namespace Go.Proofs.Ytjhakingdadfaaa
open Go.RowKit
set_option linter.unusedVariables false
set_option linter.unusedSimpArgs false
section
variable (w : World)
set_option maxHeartbeats 16000000 in
set_option maxRecDepth 100000 in
theorem law_treebelow (ns : List Nat) (nv : Value) (h : NumsRd .u8 w nv (ns.map fun n : Nat => (n : Int))) (hr : ∀ x ∈ ns, x ≤ 255) (hmx : ns.length ≤ maxLen) : Calls Try.prog 6 #[nv] w (Made (.bool true) w) := by
  have AW := Lib.hid (fun W => law_awake12 W)
  have HN := Lib.hid h
  have HRR := Lib.hid hr
  obtain ⟨ao, cap, rfl, hat⟩ := h
  rw [List.length_map] at *
  clear hat hr
  unfold maxLen at hmx
  by_cases hbig : 90 < ns.length
  · have y0 : (90 : Int) < (ns.length : Int) := by omega
    go_enter Try.func6, Try.ntmps6
    go_wp2_with fail
    with_reducible refine (AW.out _).mono ?_
    rintro e w1 ⟨rfl, hb⟩
    have B1 := Lib.hid hb
    clear hb
    go_wp2_with fail
    go_ret
    exact ⟨rfl, B1.out⟩
  · have y0 : (ns.length : Int) ≤ 90 := by omega
    have MK := Lib.hid (lmakeT w ns (.slice ao ns.length cap) (by simpa using HN.out) HRR.out (by omega))
    have MR := Lib.hid (make_right ns [] RT.nil (Nat.zero_le _))
    generalize makeT ns [] = l at *
    have RR := Lib.hid MR.out.1
    have hl24 : l.length ≤ 24 := MR.out.2
    have BLW := Lib.hid (fun W lv (hi : IRow W l lv) s (hs : s.size ≤ 1000000) => pBelow W l lv hi (by omega) RR.out.short s hs)
    have FDW := Lib.hid (fun W lv (hi : IRow W l lv) s => pFind W l lv hi (by omega) RR.out.srt s)
    go_enter Try.func6, Try.ntmps6
    go_wp2_with fail
    with_reducible refine MK.out.mono ?_
    rintro e w1 ⟨lv, rfl, hb1, ho1⟩
    have B1 := Lib.hid hb1
    have W1 := Lib.hid (irow_of_own ho1)
    obtain ⟨lo, lc, rfl⟩ := W1.out.shape
    clear hb1 ho1
    go_wp2_with fail
    with_reducible refine (BLW.out _ _ W1.out ⟨#[]⟩ (by decide)).mono ?_
    rintro e w2 ⟨bv, rfl, hb, hob⟩
    have B2 := Lib.hid (below_tr B1.out hb)
    have W2 := Lib.hid (W1.out.below hb)
    obtain ⟨bo, bc, rfl⟩ := hob.shape
    have BN0 := Lib.hid (show (belowI l ⟨#[]⟩).length = belowN l 0 from rfl)
    have BNL := Lib.hid (show ∀ s, (belowI l s).length ≤ 24 from fun s => by
      have h1 := belowTo_len l s l.length
      rw [belowTo_all] at h1; omega)
    have b24 := BNL.out ⟨#[]⟩
    rw [BN0.out] at b24 ⊢
    clear hb hob
    go_wp2_with fail
    have BNN := Lib.hid (show ∀ k, belowN l k ≤ 24 + k * 24 from fun k => by
      induction k with
      | zero => have := BNL.out ⟨#[]⟩; rw [BN0.out] at this; omega
      | succ k ih => have := BNL.out (nameAt l k); rw [belowN]; omega)
    -- GEN
    go_loopg [4, 5] l.length (fun m nv iv wr => ∃ k : Nat, iv = .int .i64 (k : Int) ∧ nv = .int .i64 ((belowN l k : Nat) : Int) ∧ l.length - k ≤ m ∧ k ≤ l.length ∧ Below w2.heap.size w2 wr)
    case atStart => exact ⟨0, rfl, rfl, Nat.le_refl _, Nat.zero_le _, Below.refl _ _⟩
    case round =>
      obtain ⟨k, rfl, rfl, hm, hk, hb⟩ := hrel
      have HM := Lib.hid hm
      have BR := Lib.hid hb
      clear hm hb
      have WR := Lib.hid (W2.out.below BR.out)
      by_cases hlt : k < l.length
      · obtain ⟨x, hx⟩ : ∃ x, l[k]? = some x := ⟨_, List.getElem?_eq_getElem hlt⟩
        have HX := Lib.hid hx
        have XM := Lib.hid (List.mem_of_getElem? hx)
        obtain ⟨_, _, e8, -, -, hat8⟩ := WR.out
        simp only [Value.slice.injEq, true_and] at e8
        obtain ⟨rfl, rfl⟩ := e8
        obtain ⟨gl, ol, rfl, hc8⟩ := hat8 k x hx
        have y0 : (0 : Int) ≤ (k : Int) := by omega
        have y1 : (k : Int) < (l.length : Int) := by omega
        have k0 := hc8.c0
        have NXB := Lib.hid (show belowN l (k + 1) = belowN l k + (belowI l x.name).length from by rw [belowN, nameAt_at hx])
        have BNK := Lib.hid (BNN.out k)
        have BLC := Lib.hid (BLW.out wr _ WR.out x.name (RR.out.short x XM.out).1)
        have BF := Lib.hid (fun t (ht : t ∈ belowI l x.name) => below_find RR.out ht)
        have BS := Lib.hid (below_srt RR.out x.name)
        have BL24 := Lib.hid (BNL.out x.name)
        have XAT := Lib.hid (show ∀ V, Below w2.heap.size w2 V → ∀ (j : Nat) (y : I12), l[j]? = some y → I12At V gl (ol + j * 12) y from fun V hV j y hy => by
          obtain ⟨_, _, e9, _, _, h9⟩ := W2.out.below hV
          simp only [Value.slice.injEq, true_and] at e9
          obtain ⟨rfl, rfl⟩ := e9
          obtain ⟨_, _, e10, h10⟩ := h9 j y hy
          cases e10
          exact h10)
        generalize belowI l x.name = bs at *
        have b24 : bs.length ≤ 24 := BL24.out
        obtain ⟨bn, hbn⟩ : ∃ bn, bn = belowN l k := ⟨_, rfl⟩
        rw [← hbn] at NXB BNK ⊢
        have bn600 : bn ≤ 624 := by have := BNK.out; omega
        clear hx hc8 hat8 hbn
        go_wp2_with fail
        with_reducible refine BLC.out.mono ?_
        rintro e w5 ⟨uv, rfl, hb5, ho5⟩
        have B5 := Lib.hid (below_tr BR.out hb5)
        have O5 := Lib.hid ho5
        obtain ⟨uo, uc, rfl⟩ := ho5.shape
        clear hb5 ho5 k0
        go_wp2_with fail
        go_loopg [7] bs.length (fun m jv ws => ∃ jj : Nat, jv = .int .i64 (jj : Int) ∧ bs.length - jj ≤ m ∧ jj ≤ bs.length ∧ Below w2.heap.size w2 ws ∧ StrsO ws wr.heap.size (.slice uo bs.length uc) bs)
        case atStart => exact ⟨0, rfl, Nat.le_refl _, Nat.zero_le _, B5.out, O5.out⟩
        case round =>
          obtain ⟨jj, rfl, hm2, hj2, hb2, ho2⟩ := hrel
          have HM2 := Lib.hid hm2
          have BSS := Lib.hid hb2
          have OS := Lib.hid ho2
          clear hm2 hb2 ho2
          by_cases hjl : jj < bs.length
          · obtain ⟨t, ht⟩ : ∃ t, bs[jj]? = some t := ⟨_, List.getElem?_eq_getElem hjl⟩
            obtain ⟨j, y, hij, hy, hpe⟩ := BF.out t (List.mem_of_getElem? ht)
            obtain ⟨ub, rfl, u0⟩ := OS.out.cell ht
            have FN := Lib.hid (FDW.out wr _ (W2.out.below BSS.out) t)
            have FE : findI l t = (j : Int) := by unfold findI; rw [hij]
            rw [FE] at FN
            have hjl2 : j < l.length := (List.getElem?_eq_some_iff.1 hy).1
            have z0 : ¬ (j : Int) < 0 := by omega
            have z1 : (0 : Int) ≤ (j : Int) := by omega
            have z2 : (j : Int) < (l.length : Int) := by omega
            have z4 : (0 : Int) ≤ (jj : Int) := by omega
            have z5 : (jj : Int) < (bs.length : Int) := by omega
            have PN := Lib.hid (tstr_is hpe)
            have HY := Lib.hid hy
            have HT := Lib.hid ht
            clear ht hij hy hpe FE
            go_wp2_with fail
            with_reducible refine FN.out.mono ?_
            rintro e w6 ⟨rfl, hb6⟩
            have B6 := Lib.hid (below_tr BSS.out hb6)
            have O6 := Lib.hid (OS.out.below hb6)
            have k0 := (XAT.out w6 B6.out k x HX.out).c0
            have m1 := (XAT.out w6 B6.out j y HY.out).c1
            have pn := PN.out
            have v0 := hold hb6 u0
            clear hb6 u0
            cases jj with
            | zero =>
              have ez : ((0 : Nat) : Int) = 0 := rfl
              go_wp2_with fail
              refine wp_region_mono (by kernel_rfl) (by kernel_rfl) ?_
              simp only [List.map_cons, List.map_nil]
              repeat (first
                | (apply wpM_is
                   · (intro us W hW hg K hK
                      clear hg
                      have d0 := hold hW k0
                      have d1 := hold hW m1
                      have d2 := hold hW v0
                      simp only [fillA]
                      go_simp
                      first
                      | exact hK _ (Below.refl _ _))
                   simp only [setD, List.set_cons_zero, List.set_cons_succ]))
              intro us V hV hg
              simp only [fillA]
              clear hg
              have B7 := Lib.hid (below_tr B6.out hV)
              have O7 := Lib.hid (O6.out.below hV)
              clear hV k0 m1 pn v0
              go_wp2_with fail
              go_roundg (bs.length - (0 + 1))
              case rel => exact ⟨0 + 1, by go_num, Nat.le_refl _, hjl, B7.out, O7.out⟩
              case measure => have := HM2.out; omega
            | succ j0 =>
              obtain ⟨s, hs⟩ : ∃ s, bs[j0]? = some s := ⟨_, List.getElem?_eq_getElem (by omega)⟩
              obtain ⟨_, e11, q0⟩ := O6.out.cell hs
              cases e11
              have LT := Lib.hid (show Op.bytesLess s.toList t.toList = true from by
                have h1 := List.pairwise_iff_getElem.1 BS.out j0 (j0 + 1) (by omega) hjl (by omega)
                obtain ⟨h2, h3⟩ := List.getElem?_eq_some_iff.1 hs
                obtain ⟨h4, h5⟩ := List.getElem?_eq_some_iff.1 HT.out
                rw [h3, h5] at h1
                exact h1)
              obtain ⟨kk, hkk⟩ : ∃ kk, kk = j0 + 1 := ⟨_, rfl⟩
              have kp : (0 : Int) < (kk : Int) := by omega
              have kp2 : 0 < kk := by omega
              have qe : (kk : Int) - 1 = (j0 : Int) := by omega
              have q1 : (j0 : Int) < (bs.length : Int) := by omega
              have q0' : (0 : Int) ≤ (j0 : Int) := by omega
              have wq : IntKind.i64.wrap (j0 : Int) = (j0 : Int) := by rw [IntKind.wrap_i64]; omega
              have lt := LT.out
              rw [← hkk] at hjl hj2 z4 z5 v0 HM2 ⊢
              clear hkk hs HT
              go_wp2_with fail
              refine wp_region_mono (by kernel_rfl) (by kernel_rfl) ?_
              simp only [List.map_cons, List.map_nil]
              repeat (first
                | (apply wpM_is
                   · (intro us W hW hg K hK
                      clear hg
                      have d0 := hold hW k0
                      have d1 := hold hW m1
                      have d2 := hold hW v0
                      have d3 := hold hW q0
                      simp only [fillA]
                      go_simp
                      first
                      | exact hK _ (Below.refl _ _))
                   simp only [setD, List.set_cons_zero, List.set_cons_succ]))
              intro us V hV hg
              simp only [fillA]
              clear hg
              have B7 := Lib.hid (below_tr B6.out hV)
              have O7 := Lib.hid (O6.out.below hV)
              clear hV k0 m1 pn v0 q0 lt
              go_wp2_with fail
              go_roundg (bs.length - (kk + 1))
              case rel => exact ⟨kk + 1, by go_num, Nat.le_refl _, hjl, B7.out, O7.out⟩
              case measure => have := HM2.out; omega
          · obtain rfl : jj = bs.length := by omega
            have NV := Lib.hid (show ((bn + bs.length : Nat) : Int) = ((belowN l (k + 1) : Nat) : Int) from by rw [NXB.out])
            go_wp2_with fail
            go_roundg (l.length - (k + 1))
            case rel => exact ⟨k + 1, by go_num, by rw [← NV.out]; push_cast; rfl, Nat.le_refl _, hlt, BSS.out⟩
            case measure => have := HM.out; omega
      · obtain rfl : k = l.length := by omega
        have BA := Lib.hid (below_all RR.out)
        rw [BA.out]
        have BF := Lib.hid (below_tr B2.out BR.out)
        go_wp2_with fail
        with_reducible refine (AW.out _).mono ?_
        rintro e w5 ⟨rfl, hb⟩
        have B5 := Lib.hid (below_tr BF.out hb)
        clear hb
        go_wp2_with fail
        go_ret
        exact ⟨rfl, B5.out⟩
theorem law_treebelowI (xs : List Int) (nv : Value) (h : NumsRd .u8 w nv xs) (hr : ∀ x ∈ xs, 0 ≤ x ∧ x ≤ 255) (hl : xs.length ≤ maxLen) : Calls Try.prog 6 #[nv] w (Made (.bool true) w) := by
  obtain ⟨ns, rfl, h2⟩ := nats_of hr
  exact law_treebelow w ns nv h h2 (by simpa using hl)
end
end Go.Proofs.Ytjhakingdadfaaa
