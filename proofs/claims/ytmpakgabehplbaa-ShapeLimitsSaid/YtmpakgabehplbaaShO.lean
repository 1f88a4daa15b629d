/- The law of shape: limits, and what is not deleted. -/
import Derived.Test.YtmpakgabehplbaaShN
import Derived.Test.YtmpakgabehplbaaTrV
import Derived.Deep.DeepCutAuto
namespace Go.Proofs.Ytmpakgabehplbaa
open Go.RowKit
set_option linter.unusedVariables false
set_option linter.unusedSimpArgs false
section
variable (w : World)
set_option maxHeartbeats 16000000 in
set_option maxRecDepth 100000 in
theorem law_shapelimitsA (CC : CrC) (LC : LiC) (DC : DeC) (ns : List Nat) (nv : Value) (wh cp : Nat) (hwh : wh ≤ 255) (hcp : cp ≤ 65535) (h : NumsRd .u8 w nv (ns.map fun n : Nat => (n : Int))) (hr : ∀ x ∈ ns, x ≤ 255) (hmx : ns.length ≤ maxLen) (HQ : ∀ x, (makeT ns [])[wh % (makeT ns []).length]? = some x → x.sub.c ≤ ((cp % 300 : Nat) : Int)) : Calls Try.prog 7 #[nv, .int .u8 (wh : Int), .int .u16 (cp : Int)] w (Made (.bool true) w) := by
  have AW := Lib.hid (fun W => law_awake15 W CC)
  have NU := Lib.hid (fun W x => num15 W x)
  have HN := Lib.hid h
  have HQQ := Lib.hid HQ
  clear HQ
  have HRR := Lib.hid hr
  have LCC := Lib.hid LC
  have DCC := Lib.hid DC
  obtain ⟨ao, cap, rfl, hat⟩ := h
  simp only [List.length_map] at HN ⊢
  clear hat hr CC LC DC
  unfold maxLen at hmx
  by_cases hbig : 90 < ns.length
  · have y0 : (90 : Int) < (ns.length : Int) := by omega
    go_enter Try.func7, Try.ntmps7
    go_wp2_with fail
    with_reducible refine (AW.out _).mono ?_
    rintro e w2 ⟨rfl, hb⟩
    have B2 := Lib.hid (hb)
    clear hb
    go_wp2_with fail
    go_ret
    exact ⟨rfl, B2.out⟩
  · have y0 : (ns.length : Int) ≤ 90 := by omega
    have MK := Lib.hid (lmakeT w ns (.slice ao ns.length cap) HN.out HRR.out (by omega))
    have MR := Lib.hid (make_right ns [] RT.nil (Nat.zero_le _))
    have MV := Lib.hid (make_ver ns [] (fun y hy => by cases hy))
    generalize makeT ns [] = l at *
    go_enter Try.func7, Try.ntmps7
    go_wp2_with fail
    with_reducible refine MK.out.mono ?_
    rintro e w1 ⟨lv0, rfl, hb1, ho1⟩
    have B1 := Lib.hid hb1
    have W1 := Lib.hid (irow_of_own ho1)
    obtain ⟨lo, lc, rfl⟩ := W1.out.shape
    clear hb1 ho1 MK
    have RR := Lib.hid MR.out.1
    have l24 : l.length ≤ 24 := MR.out.2
    by_cases hl0 : l.length = 0
    · have z0 : ((l.length : Int) == 0) = true := by simp [hl0]
      have z1 : (l.length : Int) = 0 := by omega
      clear hl0
      go_wp2_with fail
      with_reducible refine (AW.out _).mono ?_
      rintro e w2 ⟨rfl, hb⟩
      have B2 := Lib.hid (below_tr B1.out hb)
      clear hb
      go_wp2_with fail
      go_ret
      exact ⟨rfl, B2.out⟩
    · have z0 : ((l.length : Int) == 0) = false := beq_false_of_ne (by omega)
      have z1 : ¬ (l.length : Int) = 0 := by omega
      have ql : wh % l.length < l.length := Nat.mod_lt _ (by omega)
      obtain ⟨q, hq⟩ : ∃ q, q = wh % l.length := ⟨_, rfl⟩
      have qi : (wh : Int) % (l.length : Int) = (q : Int) := by rw [hq]; push_cast; rfl
      rw [← hq] at ql
      have q0 : (0 : Int) ≤ (q : Int) := by omega
      have q1 : (q : Int) < (l.length : Int) := by omega
      have wwh : IntKind.i64.wrap (wh : Int) = (wh : Int) := by rw [IntKind.wrap_i64]; omega
      have wcp : IntKind.i64.wrap (cp : Int) = (cp : Int) := by rw [IntKind.wrap_i64]; omega
      obtain ⟨x, hx⟩ : ∃ x, l[q]? = some x := ⟨_, List.getElem?_eq_getElem ql⟩
      have XM := Lib.hid (List.mem_of_getElem? hx)
      have HC0 := Lib.hid (HQQ.out x (by rw [← hq]; exact hx))
      clear HQQ
      obtain ⟨gx, ox, rfl, hcx⟩ := W1.out.atP hx
      obtain ⟨x0, x1, x2, x3, x4, x5, x6, x7, x8, x9, x10, x11⟩ := hcx
      have V1 := Lib.hid (MV.out x XM.out)
      clear hx hq hl0 ql
      go_upto_region 7 with fail
      have IX := Lib.hid (IBlk.new w1 x)
      have BX := Lib.hid (below_tr B1.out (below_al (Below.refl w1.heap.size w1) (.cells #[.string x.name, .string x.parent, .int .i64 x.lim.c, .int .i64 x.lim.m, .int .i64 x.lim.p, .int .i64 x.own.c, .int .i64 x.own.m, .int .i64 x.own.p, .int .i64 x.sub.c, .int .i64 x.sub.m, .int .i64 x.sub.p, .int .i64 x.ver] 52)))
      have WX := Lib.hid (W1.out.below (below_al (Below.refl w1.heap.size w1) (.cells #[.string x.name, .string x.parent, .int .i64 x.lim.c, .int .i64 x.lim.m, .int .i64 x.lim.p, .int .i64 x.own.c, .int .i64 x.own.m, .int .i64 x.own.p, .int .i64 x.sub.c, .int .i64 x.sub.m, .int .i64 x.sub.p, .int .i64 x.ver] 52)))
      clear x0 x1 x2 x3 x4 x5 x6 x7 x8 x9 x10 x11 W1 B1
      generalize w1.alloc (.cells #[.string x.name, .string x.parent, .int .i64 x.lim.c, .int .i64 x.lim.m, .int .i64 x.lim.p, .int .i64 x.own.c, .int .i64 x.own.m, .int .i64 x.own.p, .int .i64 x.sub.c, .int .i64 x.sub.m, .int .i64 x.sub.p, .int .i64 x.ver] 52) = w2 at *
      generalize w1.heap.size = bx at *
      obtain ⟨x0, x1, x2, x3, x4, x5, x6, x7, x8, x9, x10, x11⟩ := IX.out.cells
      obtain ⟨cq, hcq⟩ : ∃ cq : Nat, cq = cp % 300 := ⟨_, rfl⟩
      have ci : (cp : Int) % 300 = (cq : Int) := by rw [hcq]; push_cast; rfl
      have c300 : cq < 300 := by omega
      have HC := Lib.hid (show x.sub.c ≤ (cq : Int) from by have h9 := HC0.out; rw [hcq]; first | exact h9 | omega)
      clear hcq HC0
      obtain ⟨v, hv⟩ : ∃ v : V3, v = ⟨(cq : Int), x.sub.m, x.sub.p⟩ := ⟨_, rfl⟩
      have XB := Lib.hid (may_bounds (one_iff.1 (RR.out.one x XM.out)).2.2.2.2.2.2)
      have VM := Lib.hid (show mayV v = true from may_iff.2 (by have := XB.out; rw [hv]; simp only; omega))
      have CV := Lib.hid (show CBlk (w2.alloc (.cells #[.int .i64 (cq : Int), .int .i64 x.sub.m, .int .i64 x.sub.p] 24)) w2.heap.size v from by rw [hv]; exact CBlk.new w2 ⟨(cq : Int), x.sub.m, x.sub.p⟩)
      have Y2 := Lib.hid (below_al (Below.refl w2.heap.size w2) (.cells #[.int .i64 (cq : Int), .int .i64 x.sub.m, .int .i64 x.sub.p] 24))
      have BV := Lib.hid (below_tr BX.out Y2.out)
      have WV := Lib.hid (WX.out.below Y2.out)
      have IV := Lib.hid (IX.out.below Y2.out)
      go_upto_region 8 with fail
      clear x0 x1 x2 x3 x4 x5 x6 x7 x8 x9 x10 x11 IX BX WX Y2 XB
      generalize w2.alloc (.cells #[.int .i64 (cq : Int), .int .i64 x.sub.m, .int .i64 x.sub.p] 24) = w3 at *
      generalize w2.heap.size = bv at *
      have L1 := Lib.hid (fun W (hW : Below w3.heap.size w3 W) => LCC.out W l _ x.name v (-1) (WV.out.below hW) RR.out (by have := name_24 (one_iff.1 (RR.out.one x XM.out)).1; unfold maxLen; omega))
      have L2 := Lib.hid (fun W (hW : Below w3.heap.size w3 W) => LCC.out W l _ x.name v (x.ver + 1) (WV.out.below hW) RR.out (by have := name_24 (one_iff.1 (RR.out.one x XM.out)).1; unfold maxLen; omega))
      have D1 := Lib.hid (fun W (hW : Below w3.heap.size w3 W) => DCC.out W l _ x.name (-1) (WV.out.below hW) RR.out (by have := name_24 (one_iff.1 (RR.out.one x XM.out)).1; unfold maxLen; omega))
      rw [lim_any RR.out XM.out V1.out VM.out] at L1
      rw [lim_next RR.out XM.out V1.out VM.out] at L2
      rw [del_any RR.out XM.out] at D1
      have DLN := Lib.hid (del_len RR.out.srt.uq (look_mem RR.out.srt.uq XM.out))
      have LF := Lib.hid (lim_find RR.out XM.out v)
      have LE := Lib.hid (show leV x.sub v = decide (x.sub.c ≤ (cq : Int)) from by rw [leV_c (by rw [hv]) (by rw [hv]), hv])
      rw [LE.out] at L1
      have wv1 : IntKind.i64.wrap (x.ver + 1) = x.ver + 1 := by have := V1.out; rw [IntKind.wrap_i64]; omega
      have lml := Lib.hid (show (limL l x.name v).length = l.length from List.length_map _)
      generalize limL l x.name v = m at *
      generalize delL l x.name = d at *
      unfold ShT at L1 L2 D1
      rw [hv] at L1 L2
      simp only at L1 L2
      obtain ⟨x0, x1, x2, x3, x4, x5, x6, x7, x8, x9, x10, x11⟩ := IV.out.cells
      obtain ⟨v0, v1, v2, -⟩ := CV.out.cells
      rw [hv] at v0 v1 v2
      simp only at v0 v1 v2
      have hc := HC.out
      · rw [show (decide (x.sub.c ≤ (cq : Int))) = true from decide_eq_true hc, if_neg (by decide)] at L1
        go_wp2_with fail
        with_reducible refine (L1.out _ (Below.refl _ _)).mono ?_
        rintro e w4 ⟨r4, rfl, hb, h4⟩
        replace h4 : IRow w4 m r4 := h4
        obtain ⟨mo, mc, rfl⟩ := h4.shape
        have B4 := Lib.hid hb
        have M4 := Lib.hid h4
        have I4 := Lib.hid (IV.out.below hb)
        have C4 := Lib.hid (CV.out.below hb)
        clear hb h4 x0 x1 x2 x3 x4 x5 x6 x7 x8 x9 x10 x11 v0 v1 v2
        obtain ⟨x0, x1, x2, x3, x4, x5, x6, x7, x8, x9, x10, x11⟩ := I4.out.cells
        obtain ⟨v0, v1, v2, -⟩ := C4.out.cells
        rw [hv] at v0 v1 v2
        simp only at v0 v1 v2
        go_wp2_with fail
        with_reducible refine (L2.out _ B4.out).mono ?_
        rintro e w5 ⟨r5, rfl, hb, h5⟩
        replace h5 : IRow w5 [] r5 := h5
        obtain ⟨no, nc, rfl⟩ := h5.shape
        have B5 := Lib.hid (below_tr B4.out hb)
        have M5 := Lib.hid (M4.out.below hb)
        have I5 := Lib.hid (I4.out.below hb)
        have C5 := Lib.hid (C4.out.below hb)
        clear hb h5 x0 x1 x2 x3 x4 x5 x6 x7 x8 x9 x10 x11 v0 v1 v2 M4 I4 C4 B4
        obtain ⟨x0, x1, x2, x3, x4, x5, x6, x7, x8, x9, x10, x11⟩ := I5.out.cells
        obtain ⟨v0, v1, v2, -⟩ := C5.out.cells
        rw [hv] at v0 v1 v2
        simp only at v0 v1 v2
        go_wp2_with fail
        with_reducible refine (D1.out _ B5.out).mono ?_
        rintro e w6 ⟨r6, rfl, hb, h6⟩
        obtain ⟨dl, hdl⟩ : ∃ dl : List I12, dl = (if (if busyB l x = true then 13 else 0) = 0 then d else []) := ⟨_, rfl⟩
        rw [← hdl] at h6
        have HD := Lib.hid hdl
        obtain ⟨dro, dc, rfl⟩ := h6.shape
        have B6 := Lib.hid (below_tr B5.out hb)
        have M6 := Lib.hid (M5.out.below hb)
        have I6 := Lib.hid (I5.out.below hb)
        have C6 := Lib.hid (C5.out.below hb)
        have W6 := Lib.hid (WV.out.below B6.out)
        have dlen := Lib.hid (Nat.le_trans (show dl.length ≤ l.length from by
          have h9 := DLN.out
          rw [hdl]
          cases busyB l x <;> simp <;> omega) l24)
        clear hb h6 hdl x0 x1 x2 x3 x4 x5 x6 x7 x8 x9 x10 x11 v0 v1 v2 M5 I5 C5 B5
        obtain ⟨E3, hE3⟩ : ∃ E3 : Nat, E3 = (if busyB l x = true then 13 else 0) := ⟨_, rfl⟩
        rw [← hE3]
        have H3 := Lib.hid hE3
        clear hE3
        obtain ⟨x0, x1, x2, x3, x4, x5, x6, x7, x8, x9, x10, x11⟩ := I6.out.cells
        go_upto_region 11 with fail
        go_cut [16] (fun s wx => s = .bool (!eqV x.own z3) ∧ wx = w6)
        case first =>
          by_cases n5 : x.own.c = 0
          case neg =>
            have R := Lib.hid (show (!eqV x.own z3) = true from by cases h : eqV x.own z3 with | false => rfl | true => exact absurd (by rw [eqV_iff.1 h]; rfl) n5)
            have t5 := beq_false_of_ne n5
            clear n5
            go_wp2_with fail
            go_meet
            case rel => exact ⟨by rw [R.out], rfl⟩
          rw [n5] at x5
          by_cases n6 : x.own.m = 0
          case neg =>
            have R := Lib.hid (show (!eqV x.own z3) = true from by cases h : eqV x.own z3 with | false => rfl | true => exact absurd (by rw [eqV_iff.1 h]; rfl) n6)
            have t6 := beq_false_of_ne n6
            clear n5 n6
            go_wp2_with fail
            go_meet
            case rel => exact ⟨by rw [R.out], rfl⟩
          rw [n6] at x6
          by_cases n7 : x.own.p = 0
          case neg =>
            have R := Lib.hid (show (!eqV x.own z3) = true from by cases h : eqV x.own z3 with | false => rfl | true => exact absurd (by rw [eqV_iff.1 h]; rfl) n7)
            have t7 := beq_false_of_ne n7
            clear n5 n6 n7
            go_wp2_with fail
            go_meet
            case rel => exact ⟨by rw [R.out], rfl⟩
          rw [n7] at x7
          have R := Lib.hid (show (!eqV x.own z3) = false from by rw [eqV_iff.2 (v3_eq n5 n6 n7)]; rfl)
          clear n5 n6 n7
          go_wp2_with fail
          go_meet
          case rel => exact ⟨by rw [R.out], rfl⟩
        case rest =>
        obtain ⟨rfl, rfl⟩ := hcut
        have ST := Lib.hid (show (!eqV x.own z3) = busyB (l.take 0) x from by unfold busyB; simp)
        rw [ST.out]
        clear x1 x2 x3 x4 x5 x6 x7 x8 x9 x10 x11
        clear x0
        generalize wc = w6 at *
        go_upto_region 13 with fail
        have H6 := Lib.hid (Below.refl w6.heap.size w6)
        go_loopg [16, 17] l.length (fun m' sv iv wr => ∃ k : Nat, iv = .int .i64 (k : Int) ∧ sv = .bool (busyB (l.take k) x) ∧ l.length - k ≤ m' ∧ k ≤ l.length ∧ Below w6.heap.size w6 wr)
        case atStart => exact ⟨0, rfl, rfl, Nat.le_refl _, Nat.zero_le _, H6.out⟩
        case round =>
          obtain ⟨k, rfl, rfl, hm, hk, hb⟩ := hrel
          have HM := Lib.hid hm
          have BR := Lib.hid hb
          clear hm hb
          by_cases hlt : k < l.length
          · obtain ⟨y, hy⟩ : ∃ y, l[k]? = some y := ⟨_, List.getElem?_eq_getElem hlt⟩
            have k0 : (0 : Int) ≤ (k : Int) := by omega
            have k1 : (k : Int) < (l.length : Int) := by omega
            have SP := Lib.hid (busy_step (x := x) hy)
            obtain ⟨_, _, ey, hcy⟩ := (W6.out.below BR.out).atP hy
            cases ey
            have p1 := hcy.c1
            have n0 := (I6.out.below BR.out).cells.c0
            clear hy hcy
            generalize busyB (l.take k) x = bz at *
            go_upto_region 15 with fail
            cases bz with
            | true =>
              refine wp_region_mono (by kernel_rfl) (by kernel_rfl) ?_
              simp only [List.map_cons, List.map_nil, List.append_eq, List.cons_append, List.nil_append]
              repeat (first
                | (apply wpM_is
                   · (intro us W hW hg K hK
                      clear hg
                      have d_p1 := hold hW p1
                      have d_n0 := hold hW n0
                      simp only [fillA]
                      go_simp
                      first
                      | exact hK _ (Below.refl _ _))
                   simp only [setD, List.set_cons_zero, List.set_cons_succ]))
              intro us W hW hg
              simp only [fillA]
              clear hg
              have BF := Lib.hid (below_tr BR.out hW)
              clear hW p1 n0
              go_wp2_with fail
              go_roundg (l.length - (k + 1))
              case rel => exact ⟨k + 1, by go_num, by rw [SP.out]; rfl, Nat.le_refl _, hlt, BF.out⟩
              case measure => have := HM.out; omega
            | false =>
              by_cases hn : y.parent = x.name
              · have e := tstr_is hn
                have SQ := Lib.hid (show busyB (l.take (k + 1)) x = true from by rw [SP.out, decide_eq_true hn]; rfl)
                clear hn SP
                refine wp_region_mono (by kernel_rfl) (by kernel_rfl) ?_
                simp only [List.map_cons, List.map_nil, List.append_eq, List.cons_append, List.nil_append]
                repeat (first
                  | (apply wpM_is
                     · (intro us W hW hg K hK
                        clear hg
                        have d_p1 := hold hW p1
                        have d_n0 := hold hW n0
                        simp only [fillA]
                        go_simp
                        first
                        | exact hK _ (Below.refl _ _))
                     simp only [setD, List.set_cons_zero, List.set_cons_succ]))
                intro us W hW hg
                simp only [fillA]
                clear hg
                have BF := Lib.hid (below_tr BR.out hW)
                clear hW p1 n0
                go_wp2_with fail
                go_roundg (l.length - (k + 1))
                case rel => exact ⟨k + 1, by go_num, by rw [SQ.out], Nat.le_refl _, hlt, BF.out⟩
                case measure => have := HM.out; omega
              · have e := tstr_ne hn
                have SQ := Lib.hid (show busyB (l.take (k + 1)) x = false from by rw [SP.out, decide_eq_false hn]; rfl)
                clear hn SP
                refine wp_region_mono (by kernel_rfl) (by kernel_rfl) ?_
                simp only [List.map_cons, List.map_nil, List.append_eq, List.cons_append, List.nil_append]
                repeat (first
                  | (apply wpM_is
                     · (intro us W hW hg K hK
                        clear hg
                        have d_p1 := hold hW p1
                        have d_n0 := hold hW n0
                        simp only [fillA]
                        go_simp
                        first
                        | exact hK _ (Below.refl _ _))
                     simp only [setD, List.set_cons_zero, List.set_cons_succ]))
                intro us W hW hg
                simp only [fillA]
                clear hg
                have BF := Lib.hid (below_tr BR.out hW)
                clear hW p1 n0
                go_wp2_with fail
                go_roundg (l.length - (k + 1))
                case rel => exact ⟨k + 1, by go_num, by rw [SQ.out], Nat.le_refl _, hlt, BF.out⟩
                case measure => have := HM.out; omega
          · obtain rfl : k = l.length := by omega
            rw [List.take_length]
            obtain ⟨s0, -⟩ := (I6.out.below BR.out).cells
            have s8 := (I6.out.below BR.out).cells.c8
            have s11 := (I6.out.below BR.out).cells.c11
            obtain ⟨v0, v1, v2, -⟩ := (C6.out.below BR.out).cells
            rw [hv] at v0 v1 v2
            simp only at v0 v1 v2
            have wl1 : IntKind.i64.wrap ((l.length : Int) - 1) = (l.length : Int) - 1 := by rw [IntKind.wrap_i64]; omega
            have WR := Lib.hid (W6.out.below BR.out)
            have MR6 := Lib.hid (M6.out.below BR.out)
            have IR6 := Lib.hid (I6.out.below BR.out)
            have CR6 := Lib.hid (C6.out.below BR.out)
            have BB := Lib.hid (below_tr (below_tr BV.out B6.out) BR.out)
            have HDD := Lib.hid (show ∀ b, busyB l x = b → E3 = (if b = true then 13 else 0) ∧ dl = (if (if b = true then 13 else 0) = 0 then d else []) from fun b hb => by subst hb; exact ⟨H3.out, HD.out⟩)
            clear H3 HD
            cases hbz : busyB l x with
            | true =>
              obtain ⟨h3, hd2⟩ := HDD.out true hbz
              replace h3 : E3 = 13 := h3
              subst h3
              replace hd2 : dl = [] := hd2
              subst hd2
              clear HDD hbz
              go_upto_region 16 with fail
              refine wp_region_mono (by kernel_rfl) (by kernel_rfl) ?_
              simp only [List.map_cons, List.map_nil, List.append_eq, List.cons_append, List.nil_append]
              repeat (first
                | (apply wpM_is
                   · (intro us W hW hg K hK
                      clear hg
                      have d_s8 := hold hW s8
                      have d_v0 := hold hW v0
                      simp only [fillA]
                      go_simp
                      first
                      | exact hK _ (Below.refl _ _)
                      | ((with_reducible refine (NU.out _ _).mono ?_); rintro e w' ⟨rfl, rfl⟩; exact hK _ (Below.refl _ _)))
                   simp only [setD, List.set_cons_zero, List.set_cons_succ]))
              intro us W hW hg
              simp only [fillA]
              clear hg
              have BF := Lib.hid (below_tr BB.out hW)
              have MW := Lib.hid (MR6.out.below hW)
              have IW := Lib.hid (IR6.out.below hW)
              have CW := Lib.hid (CR6.out.below hW)
              clear hW s0 s8 s11 v0 v1 v2
              obtain ⟨kk, hf, hmk⟩ := LF.out
              have F1 := Lib.hid (rfind W m _ MW.out x.name)
              rw [hf] at F1
              obtain ⟨gm, om, em, hcm⟩ := MW.out.atP hmk
              cases em
              have kl : kk < m.length := (List.getElem?_eq_some_iff.1 hmk).1
              have kl0 : (0 : Int) ≤ (kk : Int) := by omega
              have kl1 : (kk : Int) < (m.length : Int) := by omega
              have kl2 : ¬ (kk : Int) < 0 := by omega
              have m2 := hcm.c2
              have m3 := hcm.c3
              have m4 := hcm.c4
              have m11 := hcm.c11
              simp only at m11
              rw [hv] at m2 m3 m4
              simp only at m2 m3 m4
              obtain ⟨v0, v1, v2, -⟩ := CW.out.cells
              rw [hv] at v0 v1 v2
              simp only at v0 v1 v2
              have s0 := IW.out.cells.c0
              have s11 := IW.out.cells.c11
              clear hf hmk hcm
              go_wp2_with (go_at_call 27; (with_reducible refine (NU.out _ _).mono ?_); rintro e w'' ⟨rfl, rfl⟩)
              with_reducible refine F1.out.mono ?_
              rintro e w' ⟨rfl, rfl⟩
              go_upto_region 20 with fail
              refine wp_region_mono (by kernel_rfl) (by kernel_rfl) ?_
              simp only [List.map_cons, List.map_nil, List.append_eq, List.cons_append, List.nil_append]
              repeat (first
                | (apply wpM_is
                   · (intro us W hW hg K hK
                      clear hg
                      have d_m2 := hold hW m2
                      have d_m3 := hold hW m3
                      have d_m4 := hold hW m4
                      have d_m11 := hold hW m11
                      have d_v0 := hold hW v0
                      have d_v1 := hold hW v1
                      have d_v2 := hold hW v2
                      have d_s11 := hold hW s11
                      simp only [fillA]
                      go_simp
                      first
                      | exact hK _ (Below.refl _ _))
                   simp only [setD, List.set_cons_zero, List.set_cons_succ]))
              intro us W hW hg
              simp only [fillA]
              clear hg
              have BF2 := Lib.hid (below_tr BF.out hW)
              clear hW m2 m3 m4 m11 v0 v1 v2 s0 s11
              go_wp2_with fail
              with_reducible refine (AW.out _).mono ?_
              rintro e w2 ⟨rfl, hb⟩
              have B2 := Lib.hid (below_tr BF2.out hb)
              clear hb
              go_wp2_with fail
              go_ret
              exact ⟨rfl, B2.out⟩
            | false =>
              obtain ⟨h3, hd2⟩ := HDD.out false hbz
              replace h3 : E3 = 0 := h3
              subst h3
              replace hd2 : dl = d := hd2
              subst hd2
              have dd : (dl.length : Int) = (l.length : Int) - 1 := by have := DLN.out; omega
              clear HDD hbz
              go_upto_region 16 with fail
              refine wp_region_mono (by kernel_rfl) (by kernel_rfl) ?_
              simp only [List.map_cons, List.map_nil, List.append_eq, List.cons_append, List.nil_append]
              repeat (first
                | (apply wpM_is
                   · (intro us W hW hg K hK
                      clear hg
                      have d_s8 := hold hW s8
                      have d_v0 := hold hW v0
                      simp only [fillA]
                      go_simp
                      first
                      | exact hK _ (Below.refl _ _)
                      | ((with_reducible refine (NU.out _ _).mono ?_); rintro e w' ⟨rfl, rfl⟩; exact hK _ (Below.refl _ _)))
                   simp only [setD, List.set_cons_zero, List.set_cons_succ]))
              intro us W hW hg
              simp only [fillA]
              clear hg
              have BF := Lib.hid (below_tr BB.out hW)
              have MW := Lib.hid (MR6.out.below hW)
              have IW := Lib.hid (IR6.out.below hW)
              have CW := Lib.hid (CR6.out.below hW)
              clear hW s0 s8 s11 v0 v1 v2
              obtain ⟨kk, hf, hmk⟩ := LF.out
              have F1 := Lib.hid (rfind W m _ MW.out x.name)
              rw [hf] at F1
              obtain ⟨gm, om, em, hcm⟩ := MW.out.atP hmk
              cases em
              have kl : kk < m.length := (List.getElem?_eq_some_iff.1 hmk).1
              have kl0 : (0 : Int) ≤ (kk : Int) := by omega
              have kl1 : (kk : Int) < (m.length : Int) := by omega
              have kl2 : ¬ (kk : Int) < 0 := by omega
              have m2 := hcm.c2
              have m3 := hcm.c3
              have m4 := hcm.c4
              have m11 := hcm.c11
              simp only at m11
              rw [hv] at m2 m3 m4
              simp only at m2 m3 m4
              obtain ⟨v0, v1, v2, -⟩ := CW.out.cells
              rw [hv] at v0 v1 v2
              simp only at v0 v1 v2
              have s0 := IW.out.cells.c0
              have s11 := IW.out.cells.c11
              clear hf hmk hcm
              go_wp2_with (go_at_call 27; (with_reducible refine (NU.out _ _).mono ?_); rintro e w'' ⟨rfl, rfl⟩)
              with_reducible refine F1.out.mono ?_
              rintro e w' ⟨rfl, rfl⟩
              go_upto_region 20 with fail
              refine wp_region_mono (by kernel_rfl) (by kernel_rfl) ?_
              simp only [List.map_cons, List.map_nil, List.append_eq, List.cons_append, List.nil_append]
              repeat (first
                | (apply wpM_is
                   · (intro us W hW hg K hK
                      clear hg
                      have d_m2 := hold hW m2
                      have d_m3 := hold hW m3
                      have d_m4 := hold hW m4
                      have d_m11 := hold hW m11
                      have d_v0 := hold hW v0
                      have d_v1 := hold hW v1
                      have d_v2 := hold hW v2
                      have d_s11 := hold hW s11
                      simp only [fillA]
                      go_simp
                      first
                      | exact hK _ (Below.refl _ _))
                   simp only [setD, List.set_cons_zero, List.set_cons_succ]))
              intro us W hW hg
              simp only [fillA]
              clear hg
              have BF2 := Lib.hid (below_tr BF.out hW)
              clear hW m2 m3 m4 m11 v0 v1 v2 s0 s11
              go_wp2_with fail
              with_reducible refine (AW.out _).mono ?_
              rintro e w2 ⟨rfl, hb⟩
              have B2 := Lib.hid (below_tr BF2.out hb)
              clear hb
              go_wp2_with fail
              go_ret
              exact ⟨rfl, B2.out⟩
end
end Go.Proofs.Ytmpakgabehplbaa
