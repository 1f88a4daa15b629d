/- The law of shape: moved, and moved back. -/
import Derived.Test.YtmpakgabehplbaaShN
import Derived.Test.YtmpakgabehplbaaTrV
import Derived.Deep.DeepCutAuto
namespace Go.Proofs.Ytmpakgabehplbaa
open Go.RowKit
set_option linter.unusedVariables false
set_option linter.unusedSimpArgs false
theorem IBlk.setVer {w : World} {g : Nat} {u : I12} (h : IBlk w g u) (n : Int) : IBlk (w.setCell ⟨g, 11, none⟩ (.int .i64 n)) g ⟨u.name, u.parent, u.lim, u.own, u.sub, n⟩ := heap_setCell_same w g 11 _ _ (.int .i64 n) h
section
variable (w : World)
set_option maxHeartbeats 16000000 in
set_option maxRecDepth 100000 in
theorem law_shapemoves (CC : CrC) (MC : MoC) (ns : List Nat) (nv : Value) (wh tw : Nat) (hwh : wh ≤ 255) (hto : tw ≤ 255) (h : NumsRd .u8 w nv (ns.map fun n : Nat => (n : Int))) (hr : ∀ x ∈ ns, x ≤ 255) (hmx : ns.length ≤ maxLen) : Calls Try.prog 6 #[nv, .int .u8 (wh : Int), .int .u8 (tw : Int)] w (Made (.bool true) w) := by
  have AW := Lib.hid (fun W => law_awake15 W CC)
  have NU := Lib.hid (fun W x => num15 W x)
  have HN := Lib.hid h
  have HRR := Lib.hid hr
  have MCC := Lib.hid MC
  obtain ⟨ao, cap, rfl, hat⟩ := h
  simp only [List.length_map] at HN ⊢
  clear hat hr CC MC
  unfold maxLen at hmx
  by_cases hbig : 90 < ns.length
  · have y0 : (90 : Int) < (ns.length : Int) := by omega
    go_enter Try.func6, Try.ntmps6
    go_wp2_with fail
    with_reducible refine (AW.out _).mono ?_
    rintro e w2 ⟨rfl, hb⟩
    have B2 := Lib.hid (hb)
    clear hb
    go_wp2_with fail
    go_ret
    exact ⟨rfl, B2.out⟩
  · have y0 : (ns.length : Int) ≤ 90 := by omega
    have MK := Lib.hid (lmakeT w ns (.slice ao ns.length cap) HN.out HRR.out (by omega))
    have MR := Lib.hid (make_right ns [] RT.nil (Nat.zero_le _))
    have MV := Lib.hid (make_ver ns [] (fun y hy => by cases hy))
    generalize makeT ns [] = l at *
    go_enter Try.func6, Try.ntmps6
    go_wp2_with fail
    with_reducible refine MK.out.mono ?_
    rintro e w1 ⟨lv0, rfl, hb1, ho1⟩
    have B1 := Lib.hid hb1
    have W1 := Lib.hid (irow_of_own ho1)
    obtain ⟨lo, lc, rfl⟩ := W1.out.shape
    clear hb1 ho1 MK
    have RR := Lib.hid MR.out.1
    have l24 : l.length ≤ 24 := MR.out.2
    by_cases hl0 : l.length = 0
    · have z0 : ((l.length : Int) == 0) = true := by simp [hl0]
      have z1 : (l.length : Int) = 0 := by omega
      clear hl0
      go_wp2_with fail
      with_reducible refine (AW.out _).mono ?_
      rintro e w2 ⟨rfl, hb⟩
      have B2 := Lib.hid (below_tr B1.out hb)
      clear hb
      go_wp2_with fail
      go_ret
      exact ⟨rfl, B2.out⟩
    · have z0 : ((l.length : Int) == 0) = false := beq_false_of_ne (by omega)
      have z1 : ¬ (l.length : Int) = 0 := by omega
      have ql : wh % l.length < l.length := Nat.mod_lt _ (by omega)
      obtain ⟨q, hq⟩ : ∃ q, q = wh % l.length := ⟨_, rfl⟩
      have qi : (wh : Int) % (l.length : Int) = (q : Int) := by rw [hq]; push_cast; rfl
      rw [← hq] at ql
      have q0 : (0 : Int) ≤ (q : Int) := by omega
      have q1 : (q : Int) < (l.length : Int) := by omega
      have wwh : IntKind.i64.wrap (wh : Int) = (wh : Int) := by rw [IntKind.wrap_i64]; omega
      have wto : IntKind.i64.wrap (tw : Int) = (tw : Int) := by rw [IntKind.wrap_i64]; omega
      have wl1 : IntKind.i64.wrap ((l.length : Int) + 1) = (l.length : Int) + 1 := by rw [IntKind.wrap_i64]; omega
      obtain ⟨x, hx⟩ : ∃ x, l[q]? = some x := ⟨_, List.getElem?_eq_getElem ql⟩
      have XM := Lib.hid (List.mem_of_getElem? hx)
      obtain ⟨gx, ox, rfl, hcx⟩ := W1.out.atP hx
      obtain ⟨x0, x1, x2, x3, x4, x5, x6, x7, x8, x9, x10, x11⟩ := hcx
      have V1 := Lib.hid (MV.out x XM.out)
      clear hx hq hl0 ql
      go_upto_region 7 with fail
      have IX := Lib.hid (IBlk.new w1 x)
      have BX := Lib.hid (below_tr B1.out (below_al (Below.refl w1.heap.size w1) (.cells #[.string x.name, .string x.parent, .int .i64 x.lim.c, .int .i64 x.lim.m, .int .i64 x.lim.p, .int .i64 x.own.c, .int .i64 x.own.m, .int .i64 x.own.p, .int .i64 x.sub.c, .int .i64 x.sub.m, .int .i64 x.sub.p, .int .i64 x.ver] 52)))
      have WX := Lib.hid (W1.out.below (below_al (Below.refl w1.heap.size w1) (.cells #[.string x.name, .string x.parent, .int .i64 x.lim.c, .int .i64 x.lim.m, .int .i64 x.lim.p, .int .i64 x.own.c, .int .i64 x.own.m, .int .i64 x.own.p, .int .i64 x.sub.c, .int .i64 x.sub.m, .int .i64 x.sub.p, .int .i64 x.ver] 52)))
      clear x0 x1 x2 x3 x4 x5 x6 x7 x8 x9 x10 x11 W1 B1 wwh
      generalize w1.alloc (.cells #[.string x.name, .string x.parent, .int .i64 x.lim.c, .int .i64 x.lim.m, .int .i64 x.lim.p, .int .i64 x.own.c, .int .i64 x.own.m, .int .i64 x.own.p, .int .i64 x.sub.c, .int .i64 x.sub.m, .int .i64 x.sub.p, .int .i64 x.ver] 52) = w2 at *
      generalize w1.heap.size = bx at *
      obtain ⟨tq, htq⟩ : ∃ tq : Nat, tq = tw % (l.length + 1) := ⟨_, rfl⟩
      have ti : (tw : Int) % ((l.length : Int) + 1) = (tq : Int) := by rw [htq]; push_cast; rfl
      have tz : ¬ ((l.length : Int) + 1) = 0 := by omega
      clear htq
      obtain ⟨p, hp⟩ : ∃ p : ByteArray, p = if tq < l.length then nameAt l tq else ⟨#[]⟩ := ⟨_, rfl⟩
      have HP := Lib.hid hp
      have PP := Lib.hid (show p = ⟨#[]⟩ ∨ ∃ y ∈ l, y.name = p from by
        by_cases ht : tq < l.length
        · rw [hp, if_pos ht]
          exact .inr ⟨_, List.getElem_mem ht, (nameAt_at (List.getElem?_eq_getElem ht)).symm⟩
        · rw [hp, if_neg ht]; exact .inl rfl)
      have PS := Lib.hid (show p.size ≤ maxLen from by
        rcases PP.out with h | ⟨y, hy, h⟩
        · rw [h]; decide
        · rw [← h]; have := name_24 (one_iff.1 (RR.out.one y hy)).1; unfold maxLen; omega)
      have XN := Lib.hid (show x.name.size ≤ maxLen from by have := name_24 (one_iff.1 (RR.out.one x XM.out)).1; unfold maxLen; omega)
      clear hp
      go_upto_if 46 with fail
      go_cut [9] (fun s wx => s = .string p ∧ wx = w2)
      case first =>
        by_cases ht : tq < l.length
        · have t0 : (tq : Int) < (l.length : Int) := by omega
          have t1 : (0 : Int) ≤ (tq : Int) := by omega
          obtain ⟨y, hy⟩ : ∃ y, l[tq]? = some y := ⟨_, List.getElem?_eq_getElem ht⟩
          have R := Lib.hid (show p = y.name from by rw [HP.out, if_pos ht, nameAt_at hy])
          obtain ⟨_, _, ey, hcy⟩ := WX.out.atP hy
          cases ey
          have c0 := hcy.c0
          clear hcy hy ht
          go_wp2_with fail
          go_meet
          case rel => exact ⟨by rw [R.out], rfl⟩
        · have t0 : ¬ (tq : Int) < (l.length : Int) := by omega
          have R := Lib.hid (show p = ⟨#[]⟩ from by rw [HP.out, if_neg ht])
          clear ht
          go_wp2_with fail
          go_meet
          case rel => exact ⟨by rw [R.out], rfl⟩
      case rest =>
      obtain ⟨rfl, rfl⟩ := hcut
      generalize wc = w2 at *
      clear wto ti tz wl1 HP
      have F0 := Lib.hid (fun W (hW : Below w2.heap.size w2 W) t => rfind W l _ (WX.out.below hW) t)
      go_wp2_with fail
      with_reducible refine (F0.out _ (Below.refl _ _) p).mono ?_
      rintro e w' ⟨rfl, rfl⟩
      have H2 := Lib.hid (Below.refl w2.heap.size w2)
      go_upto_region 12 with fail
      go_loopg [10, 11] (upI l p).length (fun m' sv kv wr => ∃ (t : ByteArray) (dn : List ByteArray), kv = .int .i64 (findI l t) ∧ sv = .bool (decide (x.name ∈ dn)) ∧ upI l p = dn ++ upI l t ∧ (upI l t).length ≤ m' ∧ Below w2.heap.size w2 wr)
      case atStart => exact ⟨p, [], rfl, by simp, rfl, Nat.le_refl _, H2.out⟩
      case round =>
        obtain ⟨t, dn, rfl, rfl, hu, hm, hb⟩ := hrel
        have HM := Lib.hid hm
        have HU := Lib.hid hu
        have BR := Lib.hid hb
        clear hm hu hb
        cases ht : look l t with
        | some y =>
          obtain ⟨k, hf, hk⟩ := find_at ht
          obtain ⟨ym, yn⟩ := look_name ht
          have UC := Lib.hid (show upI l t = t :: upI l y.parent from by rw [← yn]; exact up_cons RR.out ym)
          rw [hf]
          have kl : k < l.length := (List.getElem?_eq_some_iff.1 hk).1
          have k0 : (0 : Int) ≤ (k : Int) := by omega
          have k1 : (k : Int) < (l.length : Int) := by omega
          obtain ⟨_, _, ey, hcy⟩ := (WX.out.below BR.out).atP hk
          cases ey
          have c0 := hcy.c0
          have n0 := (IX.out.below BR.out).cells.c0
          have YN := Lib.hid yn
          have KX := Lib.hid hk
          clear hk hcy ht hf ym kl yn
          have SD := Lib.hid (show decide (x.name ∈ dn ++ [t]) = (decide (x.name ∈ dn) || decide (y.name = x.name)) from by
            rw [YN.out]
            simp only [List.mem_append, List.mem_singleton]
            by_cases e1 : x.name ∈ dn <;> by_cases e2 : x.name = t <;> simp [e1, e2]
            exact fun e => e2 e.symm)
          generalize hdb : decide (x.name ∈ dn) = db at *
          clear hdb
          go_upto_region 14 with fail
          cases db with
          | true =>
            refine wp_region_mono (by kernel_rfl) (by kernel_rfl) ?_
            simp only [List.map_cons, List.map_nil, List.append_eq, List.cons_append, List.nil_append]
            repeat (first
              | (apply wpM_is
                 · (intro us W hW hg K hK
                    clear hg
                    have d_c0 := hold hW c0
                    have d_n0 := hold hW n0
                    simp only [fillA]
                    go_simp
                    first
                    | exact hK _ (Below.refl _ _))
                 simp only [setD, List.set_cons_zero, List.set_cons_succ]))
            intro us W hW hg
            simp only [fillA]
            clear hg
            have BW := Lib.hid (below_tr BR.out hW)
            clear hW
            have d_1 := (((WX.out.below BW.out).atP KX.out))
            obtain ⟨_, _, ey, hcy⟩ := d_1
            cases ey
            have c1 := hcy.c1
            clear hcy
            go_wp2_with fail
            with_reducible refine (F0.out _ BW.out y.parent).mono ?_
            rintro e w' ⟨rfl, rfl⟩
            go_wp2_with fail
            go_roundg (upI l y.parent).length
            case rel => exact ⟨y.parent, dn ++ [t], rfl, by rw [SD.out]; rfl, by rw [HU.out, UC.out]; simp, Nat.le_refl _, BW.out⟩
            case measure => have h1 := HM.out; rw [UC.out] at h1; simp at h1; omega
          | false =>
            by_cases hn : y.name = x.name
            · have e := tstr_is hn
              have SQ := Lib.hid (decide_eq_true hn)
              clear hn
              refine wp_region_mono (by kernel_rfl) (by kernel_rfl) ?_
              simp only [List.map_cons, List.map_nil, List.append_eq, List.cons_append, List.nil_append]
              repeat (first
                | (apply wpM_is
                   · (intro us W hW hg K hK
                      clear hg
                      have d_c0 := hold hW c0
                      have d_n0 := hold hW n0
                      simp only [fillA]
                      go_simp
                      first
                      | exact hK _ (Below.refl _ _))
                   simp only [setD, List.set_cons_zero, List.set_cons_succ]))
              intro us W hW hg
              simp only [fillA]
              clear hg
              have BW := Lib.hid (below_tr BR.out hW)
              clear hW
              have d_1 := (((WX.out.below BW.out).atP KX.out))
              obtain ⟨_, _, ey, hcy⟩ := d_1
              cases ey
              have c1 := hcy.c1
              clear hcy
              go_wp2_with fail
              with_reducible refine (F0.out _ BW.out y.parent).mono ?_
              rintro e w' ⟨rfl, rfl⟩
              go_wp2_with fail
              go_roundg (upI l y.parent).length
              case rel => exact ⟨y.parent, dn ++ [t], rfl, by rw [SD.out]; rw [SQ.out]; rfl, by rw [HU.out, UC.out]; simp, Nat.le_refl _, BW.out⟩
              case measure => have h1 := HM.out; rw [UC.out] at h1; simp at h1; omega
            · have e := tstr_ne hn
              have SQ := Lib.hid (decide_eq_false hn)
              clear hn
              refine wp_region_mono (by kernel_rfl) (by kernel_rfl) ?_
              simp only [List.map_cons, List.map_nil, List.append_eq, List.cons_append, List.nil_append]
              repeat (first
                | (apply wpM_is
                   · (intro us W hW hg K hK
                      clear hg
                      have d_c0 := hold hW c0
                      have d_n0 := hold hW n0
                      simp only [fillA]
                      go_simp
                      first
                      | exact hK _ (Below.refl _ _))
                   simp only [setD, List.set_cons_zero, List.set_cons_succ]))
              intro us W hW hg
              simp only [fillA]
              clear hg
              have BW := Lib.hid (below_tr BR.out hW)
              clear hW
              have d_1 := (((WX.out.below BW.out).atP KX.out))
              obtain ⟨_, _, ey, hcy⟩ := d_1
              cases ey
              have c1 := hcy.c1
              clear hcy
              go_wp2_with fail
              with_reducible refine (F0.out _ BW.out y.parent).mono ?_
              rintro e w' ⟨rfl, rfl⟩
              go_wp2_with fail
              go_roundg (upI l y.parent).length
              case rel => exact ⟨y.parent, dn ++ [t], rfl, by rw [SD.out]; rw [SQ.out]; rfl, by rw [HU.out, UC.out]; simp, Nat.le_refl _, BW.out⟩
              case measure => have h1 := HM.out; rw [UC.out] at h1; simp at h1; omega
        | none =>
          rw [find_none ht]
          have UE := Lib.hid (show upI l p = dn from by
            rw [HU.out]
            have : upI l t = [] := upF_lnone ht _
            rw [this, List.append_nil])
          clear ht
          have M1 := Lib.hid (fun W (hW : Below w2.heap.size w2 W) => MCC.out W l _ x.name p x.ver (WX.out.below hW) RR.out XN.out PS.out)
          have v0 := (IX.out.below BR.out).cells.c0
          have v11 := (IX.out.below BR.out).cells.c11
          by_cases hund : x.name ∈ dn
          · have d1 : decide (x.name ∈ dn) = true := decide_eq_true hund
            rw [mov_under RR.out XM.out PP.out (by rw [UE.out]; exact hund)] at M1
            unfold ShT at M1
            rw [d1]
            clear d1 hund
            go_wp2_with fail
            with_reducible refine (M1.out _ BR.out).mono ?_
            rintro e w4 ⟨r4, rfl, hb, h4⟩
            have B4 := Lib.hid (below_tr (below_tr BX.out BR.out) hb)
            clear hb h4 v0 v11
            go_wp2_with (go_at_call 27; (with_reducible refine (NU.out _ _).mono ?_); rintro e w'' ⟨rfl, rfl⟩)
            with_reducible refine (AW.out _).mono ?_
            rintro e w2 ⟨rfl, hb⟩
            have B2 := Lib.hid (below_tr B4.out hb)
            clear hb
            go_wp2_with fail
            go_ret
            exact ⟨rfl, B2.out⟩
          · have d1 : decide (x.name ∈ dn) = false := decide_eq_false hund
            have HU2 := Lib.hid (show x.name ∉ upI l p from by rw [UE.out]; exact hund)
            rw [mov_there RR.out XM.out V1.out PP.out HU2.out] at M1
            rw [d1]
            clear d1 hund
            cases hmr : movR l x.name p with
            | false =>
              rw [hmr, if_pos rfl] at M1
              unfold ShT at M1
              clear hmr
              go_wp2_with fail
              with_reducible refine (M1.out _ BR.out).mono ?_
              rintro e w4 ⟨r4, rfl, hb, h4⟩
              have B4 := Lib.hid (below_tr (below_tr BX.out BR.out) hb)
              clear hb h4 v0 v11
              go_wp2_with (go_at_call 27; (with_reducible refine (NU.out _ _).mono ?_); rintro e w'' ⟨rfl, rfl⟩)
              with_reducible refine (AW.out _).mono ?_
              rintro e w2 ⟨rfl, hb⟩
              have B2 := Lib.hid (below_tr B4.out hb)
              clear hb
              go_wp2_with fail
              go_ret
              exact ⟨rfl, B2.out⟩
            | true =>
              have E0 := Lib.hid (show movE l x.name p x.ver = 0 from by rw [mov_there RR.out XM.out V1.out PP.out HU2.out, hmr]; rfl)
              have MO := Lib.hid (mov_ok RR.out E0.out)
              have MB := Lib.hid (mov_back RR.out XM.out V1.out MO.out HU2.out)
              rw [hmr, if_neg (by decide)] at M1
              unfold ShT at M1
              have PS2 := Lib.hid (show x.parent.size ≤ maxLen from by have := (RR.out.short x XM.out).2; unfold maxLen; omega)
              have wv1 : IntKind.i64.wrap (x.ver + 1) = x.ver + 1 := by have := V1.out; rw [IntKind.wrap_i64]; omega
              clear hmr E0
              generalize movL l x.name p = m at *
              go_wp2_with fail
              with_reducible refine (M1.out _ BR.out).mono ?_
              rintro e w4 ⟨r4, rfl, hb, h4⟩
              replace h4 : IRow w4 m r4 := h4
              obtain ⟨mo, mc, rfl⟩ := h4.shape
              have B4 := Lib.hid (below_tr BR.out hb)
              have M4 := Lib.hid h4
              clear hb h4 v0 v11 M1
              have v0 := (IX.out.below B4.out).cells.c0
              have v1 := (IX.out.below B4.out).cells.c1
              have v11 := (IX.out.below B4.out).cells.c11
              have M2 := Lib.hid (fun W (hW : Below w4.heap.size w4 W) => MCC.out W m _ x.name x.parent (x.ver + 1) (M4.out.below hW) MO.out XN.out PS2.out)
              have M3 := Lib.hid (fun W (hW : Below w4.heap.size w4 W) => MCC.out W m _ x.name x.parent x.ver (M4.out.below hW) MO.out XN.out PS2.out)
              rw [MB.out.1, MB.out.2.2] at M2
              rw [MB.out.2.1] at M3
              unfold ShT at M2 M3
              have OL := Lib.hid (show (l.map (twoF x.name)).length = l.length from List.length_map _)
              have OA := Lib.hid (fun (i : Nat) y (hy : l[i]? = some y) => show (l.map (twoF x.name))[i]? = some (twoF x.name y) from by rw [List.getElem?_map, hy]; rfl)
              generalize l.map (twoF x.name) = o at *
              go_wp2_with (go_at_call 27; (with_reducible refine (NU.out _ _).mono ?_); rintro e w'' ⟨rfl, rfl⟩)
              with_reducible refine (M2.out _ (Below.refl _ _)).mono ?_
              rintro e w5 ⟨r5, rfl, hb, h5⟩
              replace h5 : IRow w5 o r5 := h5
              obtain ⟨oo, oc, rfl⟩ := h5.shape
              have B5 := Lib.hid (below_tr B4.out hb)
              have B45 := Lib.hid hb
              have O5 := Lib.hid h5
              clear hb h5 v0 v1 v11 M2
              have v0 := (IX.out.below B5.out).cells.c0
              have v1 := (IX.out.below B5.out).cells.c1
              have v11 := (IX.out.below B5.out).cells.c11
              go_wp2_with fail
              with_reducible refine (M3.out _ B45.out).mono ?_
              rintro e w6 ⟨r6, rfl, hb, h6⟩
              replace h6 : IRow w6 [] r6 := h6
              obtain ⟨no, nc, rfl⟩ := h6.shape
              have B6 := Lib.hid (below_tr B5.out hb)
              have O6 := Lib.hid (O5.out.below hb)
              clear hb h6 v0 v1 v11 M3 B45 O5
              rw [OL.out]
              have ol1 : (o.length : Int) = (l.length : Int) := by have := OL.out; omega
              go_wp2_with (go_at_call 27; (with_reducible refine (NU.out _ _).mono ?_); rintro e w'' ⟨rfl, rfl⟩)
              have H6 := Lib.hid (Below.refl w6.heap.size w6)
              go_upto_region 25 with fail
              go_loopg [18] o.length (fun m' iv wr => ∃ k : Nat, iv = .int .i64 (k : Int) ∧ o.length - k ≤ m' ∧ k ≤ o.length ∧ Below w6.heap.size w6 wr)
              case atStart => exact ⟨0, rfl, Nat.le_refl _, Nat.zero_le _, H6.out⟩
              case round =>
                obtain ⟨k, rfl, hm, hk, hb⟩ := hrel
                have HM := Lib.hid hm
                have BR2 := Lib.hid hb
                clear hm hb
                by_cases hlt : k < l.length
                · obtain ⟨y, hy⟩ : ∃ y, l[k]? = some y := ⟨_, List.getElem?_eq_getElem hlt⟩
                  have k0 : (0 : Int) ≤ (k : Int) := by omega
                  have k1 : (k : Int) < (l.length : Int) := by omega
                  have k2 : (k : Int) < (o.length : Int) := by omega
                  have YA := Lib.hid hy
                  have VY := Lib.hid (MV.out y (List.mem_of_getElem? hy))
                  obtain ⟨_, _, ey, hcy⟩ := (WX.out.below (below_tr B6.out BR2.out)).atP hy
                  cases ey
                  obtain ⟨y0, y1, y2, y3, y4, y5, y6, y7, y8, y9, y10, y11⟩ := hcy
                  clear hy
                  go_upto_region 28 with fail
                  have YB := Lib.hid (IBlk.new wr y)
                  have BA := Lib.hid (below_tr BR2.out (below_al (Below.refl wr.heap.size wr) (.cells #[.string y.name, .string y.parent, .int .i64 y.lim.c, .int .i64 y.lim.m, .int .i64 y.lim.p, .int .i64 y.own.c, .int .i64 y.own.m, .int .i64 y.own.p, .int .i64 y.sub.c, .int .i64 y.sub.m, .int .i64 y.sub.p, .int .i64 y.ver] 52)))
                  have GB := Lib.hid (show w6.heap.size ≤ wr.heap.size from BR2.out.size)
                  have XB := Lib.hid ((IX.out.below (below_tr B6.out BR2.out)).below (below_al (Below.refl wr.heap.size wr) (.cells #[.string y.name, .string y.parent, .int .i64 y.lim.c, .int .i64 y.lim.m, .int .i64 y.lim.p, .int .i64 y.own.c, .int .i64 y.own.m, .int .i64 y.own.p, .int .i64 y.sub.c, .int .i64 y.sub.m, .int .i64 y.sub.p, .int .i64 y.ver] 52)))
                  clear y0 y1 y2 y3 y4 y5 y6 y7 y8 y9 y10 y11
                  generalize wr.alloc (.cells #[.string y.name, .string y.parent, .int .i64 y.lim.c, .int .i64 y.lim.m, .int .i64 y.lim.p, .int .i64 y.own.c, .int .i64 y.own.m, .int .i64 y.own.p, .int .i64 y.sub.c, .int .i64 y.sub.m, .int .i64 y.sub.p, .int .i64 y.ver] 52) = wz at *
                  generalize wr.heap.size = yb at *
                  have x0 := XB.out.cells.c0
                  obtain ⟨y0, y1, y2, y3, y4, y5, y6, y7, y8, y9, y10, y11⟩ := YB.out.cells
                  by_cases hn : y.name = x.name
                  · have e := tstr_is hn
                    have TW := Lib.hid (show twoF x.name y = ⟨y.name, y.parent, y.lim, y.own, y.sub, y.ver + 2⟩ from by unfold twoF; rw [if_pos hn])
                    have wv2 : IntKind.i64.wrap (y.ver + 2) = y.ver + 2 := by have := VY.out; rw [IntKind.wrap_i64]; omega
                    clear hn
                    have f11 := YB.out.free 11
                    have Y2 := Lib.hid (YB.out.setVer (y.ver + 2))
                    have BZ := Lib.hid (show Below w6.heap.size w6 (wz.setCell ⟨yb, 11, none⟩ (.int .i64 (y.ver + 2))) from BA.out.setCell GB.out _)
                    go_upto_region 30 with fail
                    clear x0 y0 y1 y2 y3 y4 y5 y6 y7 y8 y9 y10 y11 f11 wv2
                    generalize wz.setCell ⟨yb, 11, none⟩ (.int .i64 (y.ver + 2)) = wz at *
                    have HO := OA.out k y YA.out
                    rw [TW.out] at HO
                    obtain ⟨go, oo2, eo, hco⟩ := (O6.out.below BZ.out).atP HO
                    cases eo
                    obtain ⟨y0, y1, y2, y3, y4, y5, y6, y7, y8, y9, y10, y11⟩ := Y2.out.cells
                    obtain ⟨z0, z1, z2, z3, z4, z5, z6, z7, z8, z9, z10, z11⟩ := hco
                    simp only at y0 y1 y2 y3 y4 y5 y6 y7 y8 y9 y10 y11 z0 z1 z2 z3 z4 z5 z6 z7 z8 z9 z10 z11
                    clear HO e
                    refine wp_region_mono (by kernel_rfl) (by kernel_rfl) ?_
                    simp only [List.map_cons, List.map_nil, List.append_eq, List.cons_append, List.nil_append]
                    repeat (first
                      | (apply wpM_is
                         · (intro us W hW hg K hK
                            clear hg
                            have d_y0 := hold hW y0
                            have d_y1 := hold hW y1
                            have d_y2 := hold hW y2
                            have d_y3 := hold hW y3
                            have d_y4 := hold hW y4
                            have d_y5 := hold hW y5
                            have d_y6 := hold hW y6
                            have d_y7 := hold hW y7
                            have d_y8 := hold hW y8
                            have d_y9 := hold hW y9
                            have d_y10 := hold hW y10
                            have d_y11 := hold hW y11
                            have d_z0 := hold hW z0
                            have d_z1 := hold hW z1
                            have d_z2 := hold hW z2
                            have d_z3 := hold hW z3
                            have d_z4 := hold hW z4
                            have d_z5 := hold hW z5
                            have d_z6 := hold hW z6
                            have d_z7 := hold hW z7
                            have d_z8 := hold hW z8
                            have d_z9 := hold hW z9
                            have d_z10 := hold hW z10
                            have d_z11 := hold hW z11
                            simp only [fillA]
                            go_simp
                            first
                            | exact hK _ (Below.refl _ _))
                         simp only [setD, List.set_cons_zero, List.set_cons_succ]))
                    intro us W hW hg
                    simp only [fillA]
                    clear hg
                    have BF := Lib.hid (below_tr BZ.out hW)
                    clear hW y0 y1 y2 y3 y4 y5 y6 y7 y8 y9 y10 y11 z0 z1 z2 z3 z4 z5 z6 z7 z8 z9 z10 z11
                    go_wp2_with fail
                    go_roundg (o.length - (k + 1))
                    case rel => exact ⟨k + 1, by go_num, Nat.le_refl _, by have := OL.out; omega, BF.out⟩
                    case measure => have := HM.out; omega
                  · have e := tstr_ne hn
                    have TW := Lib.hid (show twoF x.name y = y from by unfold twoF; rw [if_neg hn])
                    clear hn
                    have Y2 := YB
                    have BZ := BA
                    go_upto_region 30 with fail
                    clear x0 y0 y1 y2 y3 y4 y5 y6 y7 y8 y9 y10 y11
                    have HO := OA.out k y YA.out
                    rw [TW.out] at HO
                    obtain ⟨go, oo2, eo, hco⟩ := (O6.out.below BZ.out).atP HO
                    cases eo
                    obtain ⟨y0, y1, y2, y3, y4, y5, y6, y7, y8, y9, y10, y11⟩ := Y2.out.cells
                    obtain ⟨z0, z1, z2, z3, z4, z5, z6, z7, z8, z9, z10, z11⟩ := hco
                    clear HO e
                    refine wp_region_mono (by kernel_rfl) (by kernel_rfl) ?_
                    simp only [List.map_cons, List.map_nil, List.append_eq, List.cons_append, List.nil_append]
                    repeat (first
                      | (apply wpM_is
                         · (intro us W hW hg K hK
                            clear hg
                            have d_y0 := hold hW y0
                            have d_y1 := hold hW y1
                            have d_y2 := hold hW y2
                            have d_y3 := hold hW y3
                            have d_y4 := hold hW y4
                            have d_y5 := hold hW y5
                            have d_y6 := hold hW y6
                            have d_y7 := hold hW y7
                            have d_y8 := hold hW y8
                            have d_y9 := hold hW y9
                            have d_y10 := hold hW y10
                            have d_y11 := hold hW y11
                            have d_z0 := hold hW z0
                            have d_z1 := hold hW z1
                            have d_z2 := hold hW z2
                            have d_z3 := hold hW z3
                            have d_z4 := hold hW z4
                            have d_z5 := hold hW z5
                            have d_z6 := hold hW z6
                            have d_z7 := hold hW z7
                            have d_z8 := hold hW z8
                            have d_z9 := hold hW z9
                            have d_z10 := hold hW z10
                            have d_z11 := hold hW z11
                            simp only [fillA]
                            go_simp
                            first
                            | exact hK _ (Below.refl _ _))
                         simp only [setD, List.set_cons_zero, List.set_cons_succ]))
                    intro us W hW hg
                    simp only [fillA]
                    clear hg
                    have BF := Lib.hid (below_tr BZ.out hW)
                    clear hW y0 y1 y2 y3 y4 y5 y6 y7 y8 y9 y10 y11 z0 z1 z2 z3 z4 z5 z6 z7 z8 z9 z10 z11
                    go_wp2_with fail
                    go_roundg (o.length - (k + 1))
                    case rel => exact ⟨k + 1, by go_num, Nat.le_refl _, by have := OL.out; omega, BF.out⟩
                    case measure => have := HM.out; omega
                · obtain rfl : k = o.length := by have := OL.out; omega
                  have BF := Lib.hid (below_tr (below_tr BX.out B6.out) BR2.out)
                  go_wp2_with fail
                  with_reducible refine (AW.out _).mono ?_
                  rintro e w2 ⟨rfl, hb⟩
                  have B2 := Lib.hid (below_tr BF.out hb)
                  clear hb
                  go_wp2_with fail
                  go_ret
                  exact ⟨rfl, B2.out⟩
end
end Go.Proofs.Ytmpakgabehplbaa
