/- The law of shape: what is created is there, and can be deleted again. -/
import Derived.Test.YtmpakgabehplbaaShQ
import Derived.Test.YtmpakgabehplbaaTrV
import Derived.Deep.DeepCutAuto
namespace Go.Proofs.Ytmpakgabehplbaa
open Go.RowKit
set_option linter.unusedVariables false
set_option linter.unusedSimpArgs false
section
variable (w : World)
set_option maxHeartbeats 16000000 in
set_option maxRecDepth 100000 in
theorem law_shapecomes (CC : CrC) (DC : DeC) (ns : List Nat) (nv : Value) (s : ByteArray) (hsz : s.size ≤ maxLen) (wh cp : Nat) (hwh : wh ≤ 255) (hcp : cp ≤ 65535) (h : NumsRd .u8 w nv (ns.map fun n : Nat => (n : Int))) (hr : ∀ x ∈ ns, x ≤ 255) (hmx : ns.length ≤ maxLen) : Calls Try.prog 8 #[nv, .string s, .int .u8 (wh : Int), .int .u16 (cp : Int)] w (Made (.bool true) w) := by
  have AW := Lib.hid (fun W => law_awake15 W CC)
  have NU := Lib.hid (fun W x => num15 W x)
  have HN := Lib.hid h
  have HRR := Lib.hid hr
  have CCC := Lib.hid CC
  have DCC := Lib.hid DC
  have SZ := Lib.hid hsz
  obtain ⟨ao, cap, rfl, hat⟩ := h
  simp only [List.length_map] at HN ⊢
  clear hat hr CC DC
  unfold maxLen at hmx hsz
  have ss : (s.size : Int) ≤ 9223372036854775807 := by omega
  by_cases hbig : 90 < ns.length
  · have y0 : (90 : Int) < (ns.length : Int) := by omega
    go_enter Try.func8, Try.ntmps8
    go_wp2_with fail
    with_reducible refine (AW.out _).mono ?_
    rintro e w2 ⟨rfl, hb⟩
    have B2 := Lib.hid (hb)
    clear hb
    go_wp2_with fail
    go_ret
    exact ⟨rfl, B2.out⟩
  by_cases hbig2 : 40 < s.size
  · have y0 : ¬ (90 : Int) < (ns.length : Int) := by omega
    have y1 : (40 : Int) < (s.size : Int) := by omega
    go_enter Try.func8, Try.ntmps8
    go_wp2_with fail
    with_reducible refine (AW.out _).mono ?_
    rintro e w2 ⟨rfl, hb⟩
    have B2 := Lib.hid (hb)
    clear hb
    go_wp2_with fail
    go_ret
    exact ⟨rfl, B2.out⟩
  · have y0 : ¬ (90 : Int) < (ns.length : Int) := by omega
    have y1 : ¬ (40 : Int) < (s.size : Int) := by omega
    have MK := Lib.hid (lmakeT w ns (.slice ao ns.length cap) HN.out HRR.out (by omega))
    have MR := Lib.hid (make_right ns [] RT.nil (Nat.zero_le _))
    have MZ := Lib.hid (make_size ns [] (fun y hy => by cases hy))
    generalize makeT ns [] = l at *
    go_enter Try.func8, Try.ntmps8
    go_wp2_with fail
    with_reducible refine MK.out.mono ?_
    rintro e w1 ⟨lv0, rfl, hb1, ho1⟩
    have B1 := Lib.hid hb1
    have W1 := Lib.hid (irow_of_own ho1)
    obtain ⟨lo, lc, rfl⟩ := W1.out.shape
    clear hb1 ho1 MK
    have RR := Lib.hid MR.out.1
    have l24 : l.length ≤ 24 := MR.out.2
    have wwh : IntKind.i64.wrap (wh : Int) = (wh : Int) := by rw [IntKind.wrap_i64]; omega
    have wcp : IntKind.i64.wrap (cp : Int) = (cp : Int) := by rw [IntKind.wrap_i64]; omega
    have wl1 : IntKind.i64.wrap ((l.length : Int) + 1) = (l.length : Int) + 1 := by rw [IntKind.wrap_i64]; omega
    obtain ⟨tq, htq⟩ : ∃ tq : Nat, tq = wh % (l.length + 1) := ⟨_, rfl⟩
    have ti : (wh : Int) % ((l.length : Int) + 1) = (tq : Int) := by rw [htq]; push_cast; rfl
    have tz : ¬ ((l.length : Int) + 1) = 0 := by omega
    clear htq
    obtain ⟨p, hp⟩ : ∃ p : ByteArray, p = if tq < l.length then nameAt l tq else ⟨#[]⟩ := ⟨_, rfl⟩
    have HP := Lib.hid hp
    have PP := Lib.hid (show p = ⟨#[]⟩ ∨ ∃ y ∈ l, y.name = p from by
      by_cases ht : tq < l.length
      · rw [hp, if_pos ht]
        exact .inr ⟨_, List.getElem_mem ht, (nameAt_at (List.getElem?_eq_getElem ht)).symm⟩
      · rw [hp, if_neg ht]; exact .inl rfl)
    have PS := Lib.hid (show p.size ≤ maxLen from by
      rcases PP.out with h | ⟨y, hy, h⟩
      · rw [h]; decide
      · rw [← h]; have := name_24 (one_iff.1 (RR.out.one y hy)).1; unfold maxLen; omega)
    clear hp
    go_upto_if 40 with fail
    go_cut [10] (fun s wx => s = .string p ∧ wx = w1)
    case first =>
      by_cases ht : tq < l.length
      · have t0 : (tq : Int) < (l.length : Int) := by omega
        have t1 : (0 : Int) ≤ (tq : Int) := by omega
        obtain ⟨y, hy⟩ : ∃ y, l[tq]? = some y := ⟨_, List.getElem?_eq_getElem ht⟩
        have R := Lib.hid (show p = y.name from by rw [HP.out, if_pos ht, nameAt_at hy])
        obtain ⟨_, _, ey, hcy⟩ := W1.out.atP hy
        cases ey
        have c0 := hcy.c0
        clear hcy hy ht
        go_wp2_with fail
        go_meet
        case rel => exact ⟨by rw [R.out], rfl⟩
      · have t0 : ¬ (tq : Int) < (l.length : Int) := by omega
        have R := Lib.hid (show p = ⟨#[]⟩ from by rw [HP.out, if_neg ht])
        clear ht
        go_wp2_with fail
        go_meet
        case rel => exact ⟨by rw [R.out], rfl⟩
    case rest =>
    obtain ⟨rfl, rfl⟩ := hcut
    generalize wc = w1 at *
    clear wwh ti tz wl1 HP
    have VM := Lib.hid (show mayV (⟨(cp : Int), 0, 0⟩ : V3) = true from may_iff.2 (by simp only; omega))
    have CV := Lib.hid (show CBlk (w1.alloc (.cells #[.int .i64 (cp : Int), .int .i64 0, .int .i64 0] 24)) w1.heap.size ⟨(cp : Int), 0, 0⟩ from CBlk.new w1 ⟨(cp : Int), 0, 0⟩)
    have Y1 := Lib.hid (below_al (Below.refl w1.heap.size w1) (.cells #[.int .i64 (cp : Int), .int .i64 0, .int .i64 0] 24))
    have BV := Lib.hid (below_tr B1.out Y1.out)
    have WV := Lib.hid (W1.out.below Y1.out)
    go_upto_region 8 with fail
    clear W1 B1 Y1 wcp
    generalize w1.alloc (.cells #[.int .i64 (cp : Int), .int .i64 0, .int .i64 0] 24) = w2 at *
    generalize w1.heap.size = bv at *
    have C1 := Lib.hid (CCC.out w2 l _ s p ⟨(cp : Int), 0, 0⟩ WV.out RR.out SZ.out PS.out)
    have F1 := Lib.hid (fun W (hW : Below w2.heap.size w2 W) => rfind W l _ (WV.out.below hW) s)
    obtain ⟨v0, v1, v2, -⟩ := CV.out.cells
    simp only at v0 v1 v2
    cases hnb : nameB s with
    | false =>
      rw [comes_bad hnb] at C1
      unfold ShT at C1
      go_wp2_with fail
      with_reducible refine C1.out.mono ?_
      rintro e w3 ⟨r3, rfl, hb, h3⟩
      have B3 := Lib.hid (below_tr BV.out hb)
      clear hb h3 v0 v1 v2
      rw [nameB_size] at hnb
      by_cases hs0 : s = ⟨#[]⟩
      · have e : s.toList.isEmpty = true := by rw [tstr_empty]; exact decide_eq_true hs0
        have e' : s.toList = [] := by simpa using e
        clear hs0 hnb
        go_wp2_with (go_at_call 27; (with_reducible refine (NU.out _ _).mono ?_); rintro e w'' ⟨rfl, rfl⟩)
        with_reducible refine (AW.out _).mono ?_
        rintro e w2 ⟨rfl, hb⟩
        have B2 := Lib.hid (below_tr B3.out hb)
        clear hb
        go_wp2_with fail
        go_ret
        exact ⟨rfl, B2.out⟩
      · have e : s.toList.isEmpty = false := by rw [tstr_empty]; exact decide_eq_false hs0
        have e' : ¬ s.toList = [] := by simpa using e
        have i24 : (24 : Int) < (s.size : Int) := by
          have : s.size ≠ 0 := fun h => hs0 (size_pos.2 h)
          by_cases h1 : 1 ≤ s.size <;> by_cases h2 : s.size ≤ 24 <;> simp [h1, h2] at hnb <;> omega
        clear hs0 hnb
        go_wp2_with (go_at_call 27; (with_reducible refine (NU.out _ _).mono ?_); rintro e w'' ⟨rfl, rfl⟩)
        with_reducible refine (AW.out _).mono ?_
        rintro e w2 ⟨rfl, hb⟩
        have B2 := Lib.hid (below_tr B3.out hb)
        clear hb
        go_wp2_with fail
        go_ret
        exact ⟨rfl, B2.out⟩
    | true =>
      have N1 := Lib.hid hnb
      have e : s.toList.isEmpty = false := by rw [tstr_empty]; exact decide_eq_false (name_ne hnb)
      have e' : ¬ s.toList = [] := by simpa using e
      have i24 : ¬ (24 : Int) < (s.size : Int) := by have := name_24 hnb; omega
      clear hnb
      by_cases hi : iIdx l s = none
      · have HI := Lib.hid hi
        have FN := Lib.hid (show findI l s = -1 from by unfold findI; rw [hi])
        have E0 := comes_new (v := ⟨(cp : Int), 0, 0⟩) N1.out VM.out hi PP.out (by omega)
        have MO := Lib.hid (create_ok RR.out E0)
        have GO := Lib.hid (comes_gone RR.out N1.out hi PP.out MO.out)
        have NN := Lib.hid (none_not MZ.out)
        have G2 := Lib.hid (fun W (hW : Below w2.heap.size w2 W) => CCC.out W l _ s noneS ⟨(cp : Int), 0, 0⟩ (WV.out.below hW) RR.out SZ.out (by decide))
        rw [comes_none N1.out VM.out hi NN.out] at G2
        rw [E0] at C1
        unfold ShT at C1 G2
        simp only at C1 G2
        unfold noneS at G2
        rw [FN.out] at F1
        clear hi E0
        generalize createL l s p ⟨(cp : Int), 0, 0⟩ = m at *
        go_wp2_with fail
        with_reducible refine C1.out.mono ?_
        rintro e2 w3 ⟨r3, rfl, hb, h3⟩
        replace h3 : IRow w3 m r3 := h3
        obtain ⟨mo, mc, rfl⟩ := h3.shape
        have B3 := Lib.hid hb
        have M3 := Lib.hid h3
        have V3' := Lib.hid (CV.out.below hb)
        clear hb h3 v0 v1 v2 C1
        go_wp2_with fail
        with_reducible refine (F1.out _ B3.out).mono ?_
        rintro e2 w' ⟨rfl, rfl⟩
        obtain ⟨k, hf, hk⟩ := GO.out.2.2.2
        have F2 := Lib.hid (fun W (hW : Below w3.heap.size w3 W) => rfind W m _ (M3.out.below hW) s)
        rw [hf] at F2
        have RG := Lib.hid (fun W (hW : Below w3.heap.size w3 W) => rright W m _ (M3.out.below hW) (fun x hx => (MO.out.short x hx).1) true (iff_of_true rfl (right_iff.2 MO.out)))
        go_wp2_with fail
        with_reducible refine (F2.out _ (Below.refl _ _)).mono ?_
        rintro e2 w' ⟨rfl, rfl⟩
        obtain ⟨gm, om, em, hcm⟩ := M3.out.atP hk
        cases em
        have kl : k < m.length := (List.getElem?_eq_some_iff.1 hk).1
        have kl0 : (0 : Int) ≤ (k : Int) := by omega
        have kl1 : (k : Int) < (m.length : Int) := by omega
        have kl2 : ¬ (k : Int) < 0 := by omega
        obtain ⟨z0, z1, z2, z3', z4, z5, z6, z7, z8, z9, z10, z11⟩ := hcm
        simp only [newI, z3] at z0 z1 z2 z3' z4 z5 z6 z7 z8 z9 z10 z11
        obtain ⟨v0, v1, v2, -⟩ := V3'.out.cells
        simp only at v0 v1 v2
        clear hf hk
        go_upto_region 14 with fail
        refine wp_region_mono (by kernel_rfl) (by kernel_rfl) ?_
        simp only [List.map_cons, List.map_nil, List.append_eq, List.cons_append, List.nil_append]
        repeat (first
          | (apply wpM_is
             · (intro us W hW hg K hK
                clear hg
                have d_z0 := hold hW z0
                have d_z1 := hold hW z1
                have d_z2 := hold hW z2
                have d_z3 := hold hW z3'
                have d_z4 := hold hW z4
                have d_z5 := hold hW z5
                have d_z6 := hold hW z6
                have d_z7 := hold hW z7
                have d_z8 := hold hW z8
                have d_z9 := hold hW z9
                have d_z10 := hold hW z10
                have d_z11 := hold hW z11
                have d_v0 := hold hW v0
                have d_v1 := hold hW v1
                have d_v2 := hold hW v2
                simp only [fillA]
                go_simp
                first
                | exact hK _ (Below.refl _ _)
                | ((with_reducible refine (NU.out _ _).mono ?_); rintro e w' ⟨rfl, rfl⟩; exact hK _ (Below.refl _ _))
                | ((with_reducible refine (RG.out _ hW).mono ?_); rintro e w' ⟨rfl, hb⟩; exact hK _ hb))
             simp only [setD, List.set_cons_zero, List.set_cons_succ]))
        intro us W hW hg
        simp only [fillA]
        clear hg
        have BW := Lib.hid hW
        have MW := Lib.hid (M3.out.below hW)
        have LW := Lib.hid (WV.out.below (below_tr B3.out hW))
        have CW := Lib.hid (V3'.out.below hW)
        clear hW z0 z1 z2 z3' z4 z5 z6 z7 z8 z9 z10 z11 v0 v1 v2
        have D1 := Lib.hid (fun W2 (hW : Below W.heap.size W W2) => DCC.out W2 m _ s 1 (MW.out.below hW) MO.out SZ.out)
        have D2 := Lib.hid (fun W2 (hW : Below W.heap.size W W2) => DCC.out W2 m _ s 2 (MW.out.below hW) MO.out SZ.out)
        rw [GO.out.1, GO.out.2.2.1] at D1
        rw [GO.out.2.1] at D2
        unfold ShT at D1 D2
        go_wp2_with fail
        with_reducible refine (D1.out _ (Below.refl _ _)).mono ?_
        rintro e2 w4 ⟨r4, rfl, hb, h4⟩
        replace h4 : IRow w4 l r4 := h4
        obtain ⟨oo, oc, rfl⟩ := h4.shape
        have B4 := Lib.hid hb
        have O4 := Lib.hid h4
        have BX4 := Lib.hid (below_tr (below_tr B3.out BW.out) hb)
        obtain ⟨v0, v1, v2, -⟩ := (CW.out.below hb).cells
        simp only at v0 v1 v2
        clear hb h4 D1
        go_wp2_with fail
        with_reducible refine (G2.out _ BX4.out).mono ?_
        rintro e2 w5 ⟨r5, rfl, hb, h5⟩
        replace h5 : IRow w5 [] r5 := h5
        obtain ⟨no, nc, rfl⟩ := h5.shape
        have B5 := Lib.hid (below_tr B4.out hb)
        have O5 := Lib.hid (O4.out.below hb)
        clear hb h5 v0 v1 v2 O4
        go_wp2_with fail
        with_reducible refine (D2.out _ B5.out).mono ?_
        rintro e2 w6 ⟨r6, rfl, hb, h6⟩
        replace h6 : IRow w6 [] r6 := h6
        obtain ⟨qo, qc, rfl⟩ := h6.shape
        have B6 := Lib.hid (below_tr B5.out hb)
        have O6 := Lib.hid (O5.out.below hb)
        have L6 := Lib.hid (LW.out.below B6.out)
        have SM := Lib.hid (rsame w6 l l _ _ O6.out L6.out (by omega) (by omega) true (iff_of_true rfl rfl))
        have BX6 := Lib.hid (below_tr BV.out (below_tr (below_tr B3.out BW.out) B6.out))
        clear hb h6 O5 D2
        go_wp2_with (go_at_call 27; (with_reducible refine (NU.out _ _).mono ?_); rintro e w'' ⟨rfl, rfl⟩)
        with_reducible refine SM.out.mono ?_
        rintro e2 w7 ⟨rfl, hb⟩
        have B7 := Lib.hid (below_tr BX6.out hb)
        clear hb
        go_wp2_with (go_at_call 27; (with_reducible refine (NU.out _ _).mono ?_); rintro e w'' ⟨rfl, rfl⟩)
        with_reducible refine (AW.out _).mono ?_
        rintro e w2 ⟨rfl, hb⟩
        have B2 := Lib.hid (below_tr B7.out hb)
        clear hb
        go_wp2_with fail
        go_ret
        exact ⟨rfl, B2.out⟩
      · rw [comes_there N1.out VM.out hi] at C1
        unfold ShT at C1
        obtain ⟨k, hk⟩ : ∃ k, iIdx l s = some k := by
          cases h : iIdx l s with
          | none => exact absurd h hi
          | some k => exact ⟨k, rfl⟩
        have FK := Lib.hid (show findI l s = (k : Int) from by unfold findI; rw [hk])
        have k0 : (0 : Int) ≤ (k : Int) := by omega
        rw [FK.out] at F1
        clear hk hi
        go_wp2_with fail
        with_reducible refine C1.out.mono ?_
        rintro e2 w3 ⟨r3, rfl, hb, h3⟩
        replace h3 : IRow w3 [] r3 := h3
        obtain ⟨mo, mc, rfl⟩ := h3.shape
        have B3 := Lib.hid hb
        have BX3 := Lib.hid (below_tr BV.out hb)
        clear hb h3 v0 v1 v2 C1
        go_wp2_with fail
        with_reducible refine (F1.out _ B3.out).mono ?_
        rintro e2 w' ⟨rfl, rfl⟩
        go_wp2_with (go_at_call 27; (with_reducible refine (NU.out _ _).mono ?_); rintro e w'' ⟨rfl, rfl⟩)
        with_reducible refine (AW.out _).mono ?_
        rintro e w2 ⟨rfl, hb⟩
        have B2 := Lib.hid (below_tr BX3.out hb)
        clear hb
        go_wp2_with fail
        go_ret
        exact ⟨rfl, B2.out⟩
end
end Go.Proofs.Ytmpakgabehplbaa
