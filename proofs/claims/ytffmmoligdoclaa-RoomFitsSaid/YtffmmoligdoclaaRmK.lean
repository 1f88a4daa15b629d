/- The law of room: what fits. -/
import Derived.Test.YtffmmoligdoclaaRmI
import Derived.Test.YtffmmoligdoclaaRmJ
namespace Go.Proofs.Ytffmmoligdoclaa
open Go.RowKit
set_option linter.unusedVariables false
set_option linter.unusedSimpArgs false
section
theorem got_grown (a b : Value) (W : World) : (Instr.field 43 (.agg #[a, b]) 1).run Try.prog W = .ok b W := by kernel_rfl
variable (w : World)
set_option maxHeartbeats 16000000 in
set_option maxRecDepth 100000 in
theorem law_roomfits (OF : OfC) (TI : TiC) (ns : List Nat) (nv : Value) (which res : Nat) (hw : which ≤ 255) (hres : res ≤ 255) (h : NumsRd .u8 w nv (ns.map fun n : Nat => (n : Int))) (hr : ∀ x ∈ ns, x ≤ 255) (hmx : ns.length ≤ maxLen) : Calls Try.prog 5 #[nv, .int .u8 (which : Int), .int .u8 (res : Int)] w (Made (.bool true) w) := by
  have AW := Lib.hid (fun W => law_awake13 W OF)
  have HN := Lib.hid h
  have HRR := Lib.hid hr
  have OFF := Lib.hid OF
  have TII := Lib.hid TI
  obtain ⟨ao, cap, rfl, hat⟩ := h
  simp only [List.length_map] at HN ⊢
  clear hat hr OF TI
  unfold maxLen at hmx
  by_cases hbig : 90 < ns.length
  · have y0 : (90 : Int) < (ns.length : Int) := by omega
    go_enter Try.func5, Try.ntmps5
    go_wp2_with fail
    with_reducible refine (AW.out _).mono ?_
    rintro e w1 ⟨rfl, hb⟩
    have B1 := Lib.hid hb
    clear hb
    go_wp2_with fail
    go_ret
    exact ⟨rfl, B1.out⟩
  · have y0 : (ns.length : Int) ≤ 90 := by omega
    have MK := Lib.hid (lmakeT w ns (.slice ao ns.length cap) HN.out HRR.out (by omega))
    have MR := Lib.hid (make_right ns [] RT.nil (Nat.zero_le _))
    have ML := Lib.hid (make_lim ns [] HRR.out (fun x hx => by cases hx))
    generalize makeT ns [] = l at *
    have RR := Lib.hid MR.out.1
    have hl24 : l.length ≤ 24 := MR.out.2
    go_enter Try.func5, Try.ntmps5
    go_wp2_with fail
    with_reducible refine MK.out.mono ?_
    rintro e w1 ⟨lv, rfl, hb1, ho1⟩
    have B1 := Lib.hid hb1
    have W1 := Lib.hid (irow_of_own ho1)
    obtain ⟨lo, lc, rfl⟩ := W1.out.shape
    clear hb1 ho1
    by_cases hl0 : l.length = 0
    · rw [hl0]
      go_wp2_with fail
      with_reducible refine (AW.out _).mono ?_
      rintro e w5 ⟨rfl, hb⟩
      have B5 := Lib.hid (below_tr B1.out hb)
      clear hb
      go_wp2_with fail
      go_ret
      exact ⟨rfl, B5.out⟩
    · have lpos : 0 < l.length := by omega
      obtain ⟨p, hp⟩ : ∃ p, p = which % l.length := ⟨_, rfl⟩
      have pl : p < l.length := by rw [hp]; exact Nat.mod_lt _ lpos
      have hpi : (which : Int) % (l.length : Int) = (p : Int) := by rw [hp]; push_cast; rfl
      obtain ⟨x, hx⟩ : ∃ x, l[p]? = some x := ⟨_, List.getElem?_eq_getElem pl⟩
      have xm := List.mem_of_getElem? hx
      obtain ⟨_, _, e8, -, -, hat8⟩ := W1.out
      simp only [Value.slice.injEq, true_and] at e8
      obtain ⟨rfl, rfl⟩ := e8
      obtain ⟨gl, ol, rfl, hc8⟩ := hat8 p x hx
      have k0 := hc8.c0
      have nz : ((l.length : Int) == 0) = false := beq_false_of_ne (by omega)
      have z0 : (0 : Int) ≤ (p : Int) := by omega
      have z1 : (p : Int) < (l.length : Int) := by omega
      have z2 : (l.length : Int) ≠ 0 := by omega
      have nsz := (RR.out.short x xm).1
      have NSZ := Lib.hid (show x.name.size ≤ maxLen by unfold maxLen; omega)
      have OF1 := Lib.hid (fun W (hW : Below w1.heap.size w1 W) => OFF.out W l _ x.name (W1.out.below hW) RR.out NSZ.out)
      rw [ok_up RR.out xm] at OF1
      have TI1 := Lib.hid (fun W (hW : Below w1.heap.size w1 W) => TII.out W l _ x.name (W1.out.below hW) RR.out NSZ.out)
      have TN := Lib.hid (tight_ne RR.out xm)
      have TF := Lib.hid (fun t (ht : t ∈ tightL l x.name) => tight_full RR.out ht)
      have FT := Lib.hid (room_fit RR.out x.name)
      have F0 := Lib.hid (fits_room RR.out xm)
      have F1 := Lib.hid (fun q => fits_more RR.out ML.out xm q)
      have RA := Lib.hid (fun W (hW : Below w1.heap.size w1 W) v => radmit W l _ (W1.out.below hW) RR.out x.name v)
      have AR := Lib.hid (adm_ok RR.out F0.out)
      have ALN := Lib.hid (adm_len l x.name (roomV l x.name))
      have TLN := Lib.hid (show (tightL l x.name).length ≤ 1000 from by
        have h1 := tightTo_len l (roomV l x.name) (upI l x.name) (upI l x.name).length
        rw [tightTo_all] at h1
        have := RR.out.up x.name; omega)
      generalize tightL l x.name = tl at *
      have RA0 := Lib.hid (fun W (hW : Below w1.heap.size w1 W) => RA.out W hW (roomV l x.name))
      have RA1 := Lib.hid (fun W (hW : Below w1.heap.size w1 W) q => RA.out W hW (moreV (roomV l x.name) q))
      simp only [F0.out] at RA0
      simp only [F1.out] at RA1
      generalize admL l x.name (roomV l x.name) = gl' at *
      generalize roomV l x.name = rv at *
      clear hp hx xm hc8 hat8 nsz RA OFF TII
      go_wp2_with fail
      with_reducible refine (OF1.out _ (Below.refl _ _)).mono ?_
      rintro e w2 ⟨rfl, hb⟩
      have C2 := Lib.hid hb
      have V2 := Lib.hid (CBlk.new w2 rv)
      have C2' := Lib.hid (below_al C2.out (.cells #[.int .i64 rv.c, .int .i64 rv.m, .int .i64 rv.p] 27))
      clear hb k0
      go_wp2_with fail
      with_reducible refine (TI1.out _ C2'.out).mono ?_
      rintro e w3 ⟨tv, rfl, hb, ho3⟩
      have C3 := Lib.hid (below_tr C2'.out hb)
      have V3' := Lib.hid (V2.out.below hb)
      have O3 := Lib.hid ho3
      obtain ⟨tao, tac, rfl⟩ := ho3.shape
      clear hb ho3
      have tpos : 0 < tl.length := List.length_pos_iff.2 TN.out
      have tnz : ((tl.length : Int) == 0) = false := beq_false_of_ne (by omega)
      have MV := Lib.hid (fun W => rmay_any W rv)
      rw [fit_may FT.out] at MV
      obtain ⟨e0, e1, e2, el⟩ := V3'.out.cells
      go_wp2_with fail
      with_reducible refine (MV.out _).mono ?_
      rintro e w4 ⟨rfl, hb⟩
      have C4 := Lib.hid (below_tr C3.out hb)
      have V4 := Lib.hid (V3'.out.below hb)
      have O4 := Lib.hid (O3.out.below hb)
      clear hb e0 e1 e2 el
      obtain ⟨e0, e1, e2, el⟩ := V4.out.cells
      have fb := FT.out
      unfold FitV at fb
      obtain ⟨⟨fb1, fb2⟩, ⟨fb3, fb4⟩, fb5, fb6⟩ := fb
      have ad0 : IntKind.i64.wrap (rv.c + 1) = rv.c + 1 := by rw [IntKind.wrap_i64]; omega
      have ad1 : IntKind.i64.wrap (rv.m + 1) = rv.m + 1 := by rw [IntKind.wrap_i64]; omega
      have ad2 : IntKind.i64.wrap (rv.p + 1) = rv.p + 1 := by rw [IntKind.wrap_i64]; omega
      clear fb1 fb2 fb3 fb4 fb5 fb6
      have hqi : (res : Int) % 3 = ((res % 3 : Nat) : Int) := by push_cast; rfl
      have q3 : res % 3 < 3 := Nat.mod_lt _ (by decide)
      generalize res % 3 = q at hqi q3
      match q, q3, hqi with
      | 0, _, hqi =>
        have hqj : (res : Int) % 3 = 0 := hqi
        have NM := Lib.hid (show CBlk (w4.alloc (.cells #[.int .i64 (rv.c + 1), .int .i64 rv.m, .int .i64 rv.p] 27)) w4.heap.size (moreV rv 0) from CBlk.new w4 ⟨rv.c + 1, rv.m, rv.p⟩)
        have B5 := Lib.hid (below_al (Below.refl w4.heap.size w4) (.cells #[.int .i64 (rv.c + 1), .int .i64 rv.m, .int .i64 rv.p] 27))
        have V5 := Lib.hid (V4.out.below B5.out)
        have T5 := Lib.hid (O4.out.below B5.out)
        have C5 := Lib.hid (below_tr C4.out B5.out)
        have RM := Lib.hid (fun W (hW : Below w1.heap.size w1 W) => RA1.out W hW 0)
        clear hqi
        go_upto_region 18 with fail
        generalize w4.alloc (.cells #[.int .i64 (rv.c + 1), .int .i64 rv.m, .int .i64 rv.p] 27) = w5 at *
        generalize w4.heap.size = bm at *
        generalize moreV rv 0 = mv at *
        clear ad0 ad1 ad2 hqj e0 e1 e2 el RA1 V4 O4 F1 B5
        as_aux_lemma =>
        obtain ⟨e0, e1, e2, el⟩ := V5.out.cells
        go_wp2_with fail
        with_reducible refine (RA0.out _ C5.out).mono ?_
        rintro e w6 ⟨v6, rfl, hb, ho6⟩
        rw [if_pos rfl] at ho6
        have C6 := Lib.hid (below_tr C5.out hb)
        have M6 := Lib.hid (NM.out.below hb)
        have T6 := Lib.hid (T5.out.below hb)
        have W6 := Lib.hid (irow_of_own ho6)
        obtain ⟨so, sc, rfl⟩ := W6.out.shape
        have G7 := Lib.hid (GBlk.new w6 (.slice so gl'.length sc) 0)
        have B7 := Lib.hid (below_al (Below.refl w6.heap.size w6) (.cells #[.slice so gl'.length sc, .int .i64 0] 43))
        have C7 := Lib.hid (below_tr C6.out B7.out)
        have M7 := Lib.hid (M6.out.below B7.out)
        have T7 := Lib.hid (T6.out.below B7.out)
        have W7 := Lib.hid (W6.out.below B7.out)
        clear hb ho6 e0 e1 e2 el
        obtain ⟨e0, e1, e2, el⟩ := M7.out.cells
        obtain ⟨g0, g1⟩ := G7.out.cells
        go_wp2_with fail
        with_reducible refine (RM.out _ C7.out).mono ?_
        rintro e w8 ⟨v8, rfl, hb, ho8⟩
        rw [if_neg (by decide)] at ho8
        have C8 := Lib.hid (below_tr C7.out hb)
        have T8 := Lib.hid (T7.out.below hb)
        have W8 := Lib.hid (W7.out.below hb)
        have G8 := Lib.hid (G7.out.below hb)
        have W9 := Lib.hid (irow_of_own ho8)
        obtain ⟨so2, sc2, rfl⟩ := W9.out.shape
        clear hb ho8 e0 e1 e2 el g0 g1 W9
        have gf := got_grown (.slice so2 0 sc2) (.int .i64 12)
        go_wp2_with fail
        clear gf
        generalize w6.heap.size = bg at *
        go_loopg [14] tl.length (fun m iv wr => ∃ kk : Nat, iv = .int .i64 (kk : Int) ∧ tl.length - kk ≤ m ∧ kk ≤ tl.length ∧ Below w8.heap.size w8 wr)
        case atStart => exact ⟨0, rfl, Nat.le_refl _, Nat.zero_le _, Below.refl _ _⟩
        case round =>
          obtain ⟨kk, rfl, hm, hk, hb⟩ := hrel
          have HM := Lib.hid hm
          have BR := Lib.hid hb
          clear hm hb
          have t1000 : tl.length ≤ 1000 := TLN.out
          by_cases hlt : kk < tl.length
          · obtain ⟨t, ht⟩ : ∃ t, tl[kk]? = some t := ⟨_, List.getElem?_eq_getElem hlt⟩
            obtain ⟨k, y, hky, hy, hfull⟩ := TF.out t (List.mem_of_getElem? ht)
            obtain ⟨tb, rfl, u0'⟩ := T8.out.cell ht
            have u0 := hold BR.out u0'
            obtain ⟨g0, g1⟩ := (G8.out.below BR.out).cells
            obtain ⟨_, _, e9, _, _, h9⟩ := W8.out.below BR.out
            simp only [Value.slice.injEq, true_and] at e9
            obtain ⟨rfl, rfl⟩ := e9
            obtain ⟨gq, oq, rfl, hcq⟩ := h9 k y hy
            have AQ := Lib.hid hcq
            have klt : k < gl'.length := (List.getElem?_eq_some_iff.1 hy).1
            have FN := Lib.hid (fun W (hW : Below w8.heap.size w8 W) => rfind W gl' _ (W8.out.below hW) t)
            have FE : findI gl' t = (k : Int) := by unfold findI; rw [hky]
            simp only [FE] at FN
            have x0 : ¬ (k : Int) < 0 := by omega
            have x1 : (0 : Int) ≤ (k : Int) := by omega
            have x2 : (k : Int) < (gl'.length : Int) := by omega
            have x3 : (0 : Int) ≤ (kk : Int) := by omega
            have x4 : (kk : Int) < (tl.length : Int) := by omega
            clear ht hky hy h9 hcq FE u0'
            go_wp2_with fail
            refine wp_region_mono_tail 7 (by kernel_rfl) (by kernel_rfl) (Nat.le_of_ble_eq_true (by kernel_rfl)) (by kernel_rfl) ?_
            simp only [List.map_cons, List.map_nil]
            simp only [List.take_succ_cons, List.take_zero, List.drop_succ_cons, List.drop_zero]
            repeat (first
              | (apply wpM_is
                 · (intro us W hW hg K hK
                    clear hg
                    have d0 := hold hW g0
                    have d1 := hold hW u0
                    simp only [fillA]
                    go_simp
                    first
                    | exact hK _ (Below.refl _ _)
                    | ((with_reducible refine (FN.out _ (below_tr BR.out hW)).mono ?_); rintro e w' ⟨rfl, rfl⟩; exact hK _ (Below.refl _ _)))
                 simp only [setD, List.set_cons_zero, List.set_cons_succ]))
            intro us W hW hg
            simp only [fillA]
            clear hg
            have BW := Lib.hid (below_tr BR.out hW)
            have AW1 := Lib.hid (AQ.out.below hW)
            replace g0 := hold hW g0
            clear hW u0 g1
            obtain ⟨k0, k1, k2, k3, k4, k5, k6, k7, k8, k9, k10, k11⟩ := AW1.out
            go_wp2_with fail
            by_cases s1 : y.sub.c = y.lim.c
            · have n1 : (y.sub.c == y.lim.c) = true := by simpa using s1
              rw [s1] at k8
              clear hfull s1
              as_aux_lemma =>
              refine wp_region_mono (by kernel_rfl) (by kernel_rfl) ?_
              simp only [List.map_cons, List.map_nil, List.append_eq, List.cons_append, List.nil_append]
              repeat (first
                | (apply wpM_is
                   · (intro us W hW hg K hK
                      clear hg
                      have d0 := hold hW g0
                      have d1 := hold hW k2
                      have d2 := hold hW k3
                      have d3 := hold hW k4
                      have d4 := hold hW k8
                      have d5 := hold hW k9
                      have d6 := hold hW k10
                      simp only [fillA]
                      go_simp
                      first
                      | exact hK _ (Below.refl _ _))
                   simp only [setD, List.set_cons_zero, List.set_cons_succ]))
              intro us2 W2 hW2 hg
              simp only [fillA]
              clear hg
              have BW2 := Lib.hid (below_tr BW.out hW2)
              clear hW2 g0 k0 k1 k2 k3 k4 k5 k6 k7 k8 k9 k10 k11
              go_wp2_with fail
              go_roundg (tl.length - (kk + 1))
              case rel => exact ⟨kk + 1, by go_num, Nat.le_refl _, hlt, BW2.out⟩
              case measure => have := HM.out; omega
            · have n1 : (y.sub.c != y.lim.c) = true := by simpa using s1
              by_cases s2 : y.sub.m = y.lim.m
              · rw [s2] at k9
                clear hfull s1 s2
                as_aux_lemma =>
                refine wp_region_mono (by kernel_rfl) (by kernel_rfl) ?_
                simp only [List.map_cons, List.map_nil, List.append_eq, List.cons_append, List.nil_append]
                repeat (first
                  | (apply wpM_is
                     · (intro us W hW hg K hK
                        clear hg
                        have d0 := hold hW g0
                        have d1 := hold hW k2
                        have d2 := hold hW k3
                        have d3 := hold hW k4
                        have d4 := hold hW k8
                        have d5 := hold hW k9
                        have d6 := hold hW k10
                        simp only [fillA]
                        go_simp
                        first
                        | exact hK _ (Below.refl _ _))
                     simp only [setD, List.set_cons_zero, List.set_cons_succ]))
                intro us2 W2 hW2 hg
                simp only [fillA]
                clear hg
                have BW2 := Lib.hid (below_tr BW.out hW2)
                clear hW2 g0 k0 k1 k2 k3 k4 k5 k6 k7 k8 k9 k10 k11
                go_wp2_with fail
                go_roundg (tl.length - (kk + 1))
                case rel => exact ⟨kk + 1, by go_num, Nat.le_refl _, hlt, BW2.out⟩
                case measure => have := HM.out; omega
              · have n2 : (y.sub.m != y.lim.m) = true := by simpa using s2
                have s3 : y.sub.p = y.lim.p := by rcases hfull with h | h | h; exact absurd h s1; exact absurd h s2; exact h
                rw [s3] at k10
                clear hfull s1 s2 s3
                as_aux_lemma =>
                refine wp_region_mono (by kernel_rfl) (by kernel_rfl) ?_
                simp only [List.map_cons, List.map_nil, List.append_eq, List.cons_append, List.nil_append]
                repeat (first
                  | (apply wpM_is
                     · (intro us W hW hg K hK
                        clear hg
                        have d0 := hold hW g0
                        have d1 := hold hW k2
                        have d2 := hold hW k3
                        have d3 := hold hW k4
                        have d4 := hold hW k8
                        have d5 := hold hW k9
                        have d6 := hold hW k10
                        simp only [fillA]
                        go_simp
                        first
                        | exact hK _ (Below.refl _ _))
                     simp only [setD, List.set_cons_zero, List.set_cons_succ]))
                intro us2 W2 hW2 hg
                simp only [fillA]
                clear hg
                have BW2 := Lib.hid (below_tr BW.out hW2)
                clear hW2 g0 k0 k1 k2 k3 k4 k5 k6 k7 k8 k9 k10 k11
                go_wp2_with fail
                go_roundg (tl.length - (kk + 1))
                case rel => exact ⟨kk + 1, by go_num, Nat.le_refl _, hlt, BW2.out⟩
                case measure => have := HM.out; omega
          · obtain rfl : kk = tl.length := by omega
            have BF := Lib.hid (below_tr (below_tr B1.out C8.out) BR.out)
            go_wp2_with fail
            with_reducible refine (AW.out _).mono ?_
            rintro e w10 ⟨rfl, hb⟩
            have B10 := Lib.hid (below_tr BF.out hb)
            clear hb
            go_wp2_with fail
            go_ret
            exact ⟨rfl, B10.out⟩
      | 1, _, hqi =>
        have hqj : (res : Int) % 3 = 1 := hqi
        have NM := Lib.hid (show CBlk (w4.alloc (.cells #[.int .i64 rv.c, .int .i64 (rv.m + 1), .int .i64 rv.p] 27)) w4.heap.size (moreV rv 1) from CBlk.new w4 ⟨rv.c, rv.m + 1, rv.p⟩)
        have B5 := Lib.hid (below_al (Below.refl w4.heap.size w4) (.cells #[.int .i64 rv.c, .int .i64 (rv.m + 1), .int .i64 rv.p] 27))
        have V5 := Lib.hid (V4.out.below B5.out)
        have T5 := Lib.hid (O4.out.below B5.out)
        have C5 := Lib.hid (below_tr C4.out B5.out)
        have RM := Lib.hid (fun W (hW : Below w1.heap.size w1 W) => RA1.out W hW 1)
        clear hqi
        go_upto_region 18 with fail
        generalize w4.alloc (.cells #[.int .i64 rv.c, .int .i64 (rv.m + 1), .int .i64 rv.p] 27) = w5 at *
        generalize w4.heap.size = bm at *
        generalize moreV rv 1 = mv at *
        clear ad0 ad1 ad2 hqj e0 e1 e2 el RA1 V4 O4 F1 B5
        as_aux_lemma =>
        obtain ⟨e0, e1, e2, el⟩ := V5.out.cells
        go_wp2_with fail
        with_reducible refine (RA0.out _ C5.out).mono ?_
        rintro e w6 ⟨v6, rfl, hb, ho6⟩
        rw [if_pos rfl] at ho6
        have C6 := Lib.hid (below_tr C5.out hb)
        have M6 := Lib.hid (NM.out.below hb)
        have T6 := Lib.hid (T5.out.below hb)
        have W6 := Lib.hid (irow_of_own ho6)
        obtain ⟨so, sc, rfl⟩ := W6.out.shape
        have G7 := Lib.hid (GBlk.new w6 (.slice so gl'.length sc) 0)
        have B7 := Lib.hid (below_al (Below.refl w6.heap.size w6) (.cells #[.slice so gl'.length sc, .int .i64 0] 43))
        have C7 := Lib.hid (below_tr C6.out B7.out)
        have M7 := Lib.hid (M6.out.below B7.out)
        have T7 := Lib.hid (T6.out.below B7.out)
        have W7 := Lib.hid (W6.out.below B7.out)
        clear hb ho6 e0 e1 e2 el
        obtain ⟨e0, e1, e2, el⟩ := M7.out.cells
        obtain ⟨g0, g1⟩ := G7.out.cells
        go_wp2_with fail
        with_reducible refine (RM.out _ C7.out).mono ?_
        rintro e w8 ⟨v8, rfl, hb, ho8⟩
        rw [if_neg (by decide)] at ho8
        have C8 := Lib.hid (below_tr C7.out hb)
        have T8 := Lib.hid (T7.out.below hb)
        have W8 := Lib.hid (W7.out.below hb)
        have G8 := Lib.hid (G7.out.below hb)
        have W9 := Lib.hid (irow_of_own ho8)
        obtain ⟨so2, sc2, rfl⟩ := W9.out.shape
        clear hb ho8 e0 e1 e2 el g0 g1 W9
        have gf := got_grown (.slice so2 0 sc2) (.int .i64 12)
        go_wp2_with fail
        clear gf
        generalize w6.heap.size = bg at *
        go_loopg [14] tl.length (fun m iv wr => ∃ kk : Nat, iv = .int .i64 (kk : Int) ∧ tl.length - kk ≤ m ∧ kk ≤ tl.length ∧ Below w8.heap.size w8 wr)
        case atStart => exact ⟨0, rfl, Nat.le_refl _, Nat.zero_le _, Below.refl _ _⟩
        case round =>
          obtain ⟨kk, rfl, hm, hk, hb⟩ := hrel
          have HM := Lib.hid hm
          have BR := Lib.hid hb
          clear hm hb
          have t1000 : tl.length ≤ 1000 := TLN.out
          by_cases hlt : kk < tl.length
          · obtain ⟨t, ht⟩ : ∃ t, tl[kk]? = some t := ⟨_, List.getElem?_eq_getElem hlt⟩
            obtain ⟨k, y, hky, hy, hfull⟩ := TF.out t (List.mem_of_getElem? ht)
            obtain ⟨tb, rfl, u0'⟩ := T8.out.cell ht
            have u0 := hold BR.out u0'
            obtain ⟨g0, g1⟩ := (G8.out.below BR.out).cells
            obtain ⟨_, _, e9, _, _, h9⟩ := W8.out.below BR.out
            simp only [Value.slice.injEq, true_and] at e9
            obtain ⟨rfl, rfl⟩ := e9
            obtain ⟨gq, oq, rfl, hcq⟩ := h9 k y hy
            have AQ := Lib.hid hcq
            have klt : k < gl'.length := (List.getElem?_eq_some_iff.1 hy).1
            have FN := Lib.hid (fun W (hW : Below w8.heap.size w8 W) => rfind W gl' _ (W8.out.below hW) t)
            have FE : findI gl' t = (k : Int) := by unfold findI; rw [hky]
            simp only [FE] at FN
            have x0 : ¬ (k : Int) < 0 := by omega
            have x1 : (0 : Int) ≤ (k : Int) := by omega
            have x2 : (k : Int) < (gl'.length : Int) := by omega
            have x3 : (0 : Int) ≤ (kk : Int) := by omega
            have x4 : (kk : Int) < (tl.length : Int) := by omega
            clear ht hky hy h9 hcq FE u0'
            go_wp2_with fail
            refine wp_region_mono_tail 7 (by kernel_rfl) (by kernel_rfl) (Nat.le_of_ble_eq_true (by kernel_rfl)) (by kernel_rfl) ?_
            simp only [List.map_cons, List.map_nil]
            simp only [List.take_succ_cons, List.take_zero, List.drop_succ_cons, List.drop_zero]
            repeat (first
              | (apply wpM_is
                 · (intro us W hW hg K hK
                    clear hg
                    have d0 := hold hW g0
                    have d1 := hold hW u0
                    simp only [fillA]
                    go_simp
                    first
                    | exact hK _ (Below.refl _ _)
                    | ((with_reducible refine (FN.out _ (below_tr BR.out hW)).mono ?_); rintro e w' ⟨rfl, rfl⟩; exact hK _ (Below.refl _ _)))
                 simp only [setD, List.set_cons_zero, List.set_cons_succ]))
            intro us W hW hg
            simp only [fillA]
            clear hg
            have BW := Lib.hid (below_tr BR.out hW)
            have AW1 := Lib.hid (AQ.out.below hW)
            replace g0 := hold hW g0
            clear hW u0 g1
            obtain ⟨k0, k1, k2, k3, k4, k5, k6, k7, k8, k9, k10, k11⟩ := AW1.out
            go_wp2_with fail
            by_cases s1 : y.sub.c = y.lim.c
            · have n1 : (y.sub.c == y.lim.c) = true := by simpa using s1
              rw [s1] at k8
              clear hfull s1
              as_aux_lemma =>
              refine wp_region_mono (by kernel_rfl) (by kernel_rfl) ?_
              simp only [List.map_cons, List.map_nil, List.append_eq, List.cons_append, List.nil_append]
              repeat (first
                | (apply wpM_is
                   · (intro us W hW hg K hK
                      clear hg
                      have d0 := hold hW g0
                      have d1 := hold hW k2
                      have d2 := hold hW k3
                      have d3 := hold hW k4
                      have d4 := hold hW k8
                      have d5 := hold hW k9
                      have d6 := hold hW k10
                      simp only [fillA]
                      go_simp
                      first
                      | exact hK _ (Below.refl _ _))
                   simp only [setD, List.set_cons_zero, List.set_cons_succ]))
              intro us2 W2 hW2 hg
              simp only [fillA]
              clear hg
              have BW2 := Lib.hid (below_tr BW.out hW2)
              clear hW2 g0 k0 k1 k2 k3 k4 k5 k6 k7 k8 k9 k10 k11
              go_wp2_with fail
              go_roundg (tl.length - (kk + 1))
              case rel => exact ⟨kk + 1, by go_num, Nat.le_refl _, hlt, BW2.out⟩
              case measure => have := HM.out; omega
            · have n1 : (y.sub.c != y.lim.c) = true := by simpa using s1
              by_cases s2 : y.sub.m = y.lim.m
              · rw [s2] at k9
                clear hfull s1 s2
                as_aux_lemma =>
                refine wp_region_mono (by kernel_rfl) (by kernel_rfl) ?_
                simp only [List.map_cons, List.map_nil, List.append_eq, List.cons_append, List.nil_append]
                repeat (first
                  | (apply wpM_is
                     · (intro us W hW hg K hK
                        clear hg
                        have d0 := hold hW g0
                        have d1 := hold hW k2
                        have d2 := hold hW k3
                        have d3 := hold hW k4
                        have d4 := hold hW k8
                        have d5 := hold hW k9
                        have d6 := hold hW k10
                        simp only [fillA]
                        go_simp
                        first
                        | exact hK _ (Below.refl _ _))
                     simp only [setD, List.set_cons_zero, List.set_cons_succ]))
                intro us2 W2 hW2 hg
                simp only [fillA]
                clear hg
                have BW2 := Lib.hid (below_tr BW.out hW2)
                clear hW2 g0 k0 k1 k2 k3 k4 k5 k6 k7 k8 k9 k10 k11
                go_wp2_with fail
                go_roundg (tl.length - (kk + 1))
                case rel => exact ⟨kk + 1, by go_num, Nat.le_refl _, hlt, BW2.out⟩
                case measure => have := HM.out; omega
              · have n2 : (y.sub.m != y.lim.m) = true := by simpa using s2
                have s3 : y.sub.p = y.lim.p := by rcases hfull with h | h | h; exact absurd h s1; exact absurd h s2; exact h
                rw [s3] at k10
                clear hfull s1 s2 s3
                as_aux_lemma =>
                refine wp_region_mono (by kernel_rfl) (by kernel_rfl) ?_
                simp only [List.map_cons, List.map_nil, List.append_eq, List.cons_append, List.nil_append]
                repeat (first
                  | (apply wpM_is
                     · (intro us W hW hg K hK
                        clear hg
                        have d0 := hold hW g0
                        have d1 := hold hW k2
                        have d2 := hold hW k3
                        have d3 := hold hW k4
                        have d4 := hold hW k8
                        have d5 := hold hW k9
                        have d6 := hold hW k10
                        simp only [fillA]
                        go_simp
                        first
                        | exact hK _ (Below.refl _ _))
                     simp only [setD, List.set_cons_zero, List.set_cons_succ]))
                intro us2 W2 hW2 hg
                simp only [fillA]
                clear hg
                have BW2 := Lib.hid (below_tr BW.out hW2)
                clear hW2 g0 k0 k1 k2 k3 k4 k5 k6 k7 k8 k9 k10 k11
                go_wp2_with fail
                go_roundg (tl.length - (kk + 1))
                case rel => exact ⟨kk + 1, by go_num, Nat.le_refl _, hlt, BW2.out⟩
                case measure => have := HM.out; omega
          · obtain rfl : kk = tl.length := by omega
            have BF := Lib.hid (below_tr (below_tr B1.out C8.out) BR.out)
            go_wp2_with fail
            with_reducible refine (AW.out _).mono ?_
            rintro e w10 ⟨rfl, hb⟩
            have B10 := Lib.hid (below_tr BF.out hb)
            clear hb
            go_wp2_with fail
            go_ret
            exact ⟨rfl, B10.out⟩
      | 2, _, hqi =>
        have hqj : (res : Int) % 3 = 2 := hqi
        have NM := Lib.hid (show CBlk (w4.alloc (.cells #[.int .i64 rv.c, .int .i64 rv.m, .int .i64 (rv.p + 1)] 27)) w4.heap.size (moreV rv 2) from CBlk.new w4 ⟨rv.c, rv.m, rv.p + 1⟩)
        have B5 := Lib.hid (below_al (Below.refl w4.heap.size w4) (.cells #[.int .i64 rv.c, .int .i64 rv.m, .int .i64 (rv.p + 1)] 27))
        have V5 := Lib.hid (V4.out.below B5.out)
        have T5 := Lib.hid (O4.out.below B5.out)
        have C5 := Lib.hid (below_tr C4.out B5.out)
        have RM := Lib.hid (fun W (hW : Below w1.heap.size w1 W) => RA1.out W hW 2)
        clear hqi
        go_upto_region 18 with fail
        generalize w4.alloc (.cells #[.int .i64 rv.c, .int .i64 rv.m, .int .i64 (rv.p + 1)] 27) = w5 at *
        generalize w4.heap.size = bm at *
        generalize moreV rv 2 = mv at *
        clear ad0 ad1 ad2 hqj e0 e1 e2 el RA1 V4 O4 F1 B5
        as_aux_lemma =>
        obtain ⟨e0, e1, e2, el⟩ := V5.out.cells
        go_wp2_with fail
        with_reducible refine (RA0.out _ C5.out).mono ?_
        rintro e w6 ⟨v6, rfl, hb, ho6⟩
        rw [if_pos rfl] at ho6
        have C6 := Lib.hid (below_tr C5.out hb)
        have M6 := Lib.hid (NM.out.below hb)
        have T6 := Lib.hid (T5.out.below hb)
        have W6 := Lib.hid (irow_of_own ho6)
        obtain ⟨so, sc, rfl⟩ := W6.out.shape
        have G7 := Lib.hid (GBlk.new w6 (.slice so gl'.length sc) 0)
        have B7 := Lib.hid (below_al (Below.refl w6.heap.size w6) (.cells #[.slice so gl'.length sc, .int .i64 0] 43))
        have C7 := Lib.hid (below_tr C6.out B7.out)
        have M7 := Lib.hid (M6.out.below B7.out)
        have T7 := Lib.hid (T6.out.below B7.out)
        have W7 := Lib.hid (W6.out.below B7.out)
        clear hb ho6 e0 e1 e2 el
        obtain ⟨e0, e1, e2, el⟩ := M7.out.cells
        obtain ⟨g0, g1⟩ := G7.out.cells
        go_wp2_with fail
        with_reducible refine (RM.out _ C7.out).mono ?_
        rintro e w8 ⟨v8, rfl, hb, ho8⟩
        rw [if_neg (by decide)] at ho8
        have C8 := Lib.hid (below_tr C7.out hb)
        have T8 := Lib.hid (T7.out.below hb)
        have W8 := Lib.hid (W7.out.below hb)
        have G8 := Lib.hid (G7.out.below hb)
        have W9 := Lib.hid (irow_of_own ho8)
        obtain ⟨so2, sc2, rfl⟩ := W9.out.shape
        clear hb ho8 e0 e1 e2 el g0 g1 W9
        have gf := got_grown (.slice so2 0 sc2) (.int .i64 12)
        go_wp2_with fail
        clear gf
        generalize w6.heap.size = bg at *
        go_loopg [14] tl.length (fun m iv wr => ∃ kk : Nat, iv = .int .i64 (kk : Int) ∧ tl.length - kk ≤ m ∧ kk ≤ tl.length ∧ Below w8.heap.size w8 wr)
        case atStart => exact ⟨0, rfl, Nat.le_refl _, Nat.zero_le _, Below.refl _ _⟩
        case round =>
          obtain ⟨kk, rfl, hm, hk, hb⟩ := hrel
          have HM := Lib.hid hm
          have BR := Lib.hid hb
          clear hm hb
          have t1000 : tl.length ≤ 1000 := TLN.out
          by_cases hlt : kk < tl.length
          · obtain ⟨t, ht⟩ : ∃ t, tl[kk]? = some t := ⟨_, List.getElem?_eq_getElem hlt⟩
            obtain ⟨k, y, hky, hy, hfull⟩ := TF.out t (List.mem_of_getElem? ht)
            obtain ⟨tb, rfl, u0'⟩ := T8.out.cell ht
            have u0 := hold BR.out u0'
            obtain ⟨g0, g1⟩ := (G8.out.below BR.out).cells
            obtain ⟨_, _, e9, _, _, h9⟩ := W8.out.below BR.out
            simp only [Value.slice.injEq, true_and] at e9
            obtain ⟨rfl, rfl⟩ := e9
            obtain ⟨gq, oq, rfl, hcq⟩ := h9 k y hy
            have AQ := Lib.hid hcq
            have klt : k < gl'.length := (List.getElem?_eq_some_iff.1 hy).1
            have FN := Lib.hid (fun W (hW : Below w8.heap.size w8 W) => rfind W gl' _ (W8.out.below hW) t)
            have FE : findI gl' t = (k : Int) := by unfold findI; rw [hky]
            simp only [FE] at FN
            have x0 : ¬ (k : Int) < 0 := by omega
            have x1 : (0 : Int) ≤ (k : Int) := by omega
            have x2 : (k : Int) < (gl'.length : Int) := by omega
            have x3 : (0 : Int) ≤ (kk : Int) := by omega
            have x4 : (kk : Int) < (tl.length : Int) := by omega
            clear ht hky hy h9 hcq FE u0'
            go_wp2_with fail
            refine wp_region_mono_tail 7 (by kernel_rfl) (by kernel_rfl) (Nat.le_of_ble_eq_true (by kernel_rfl)) (by kernel_rfl) ?_
            simp only [List.map_cons, List.map_nil]
            simp only [List.take_succ_cons, List.take_zero, List.drop_succ_cons, List.drop_zero]
            repeat (first
              | (apply wpM_is
                 · (intro us W hW hg K hK
                    clear hg
                    have d0 := hold hW g0
                    have d1 := hold hW u0
                    simp only [fillA]
                    go_simp
                    first
                    | exact hK _ (Below.refl _ _)
                    | ((with_reducible refine (FN.out _ (below_tr BR.out hW)).mono ?_); rintro e w' ⟨rfl, rfl⟩; exact hK _ (Below.refl _ _)))
                 simp only [setD, List.set_cons_zero, List.set_cons_succ]))
            intro us W hW hg
            simp only [fillA]
            clear hg
            have BW := Lib.hid (below_tr BR.out hW)
            have AW1 := Lib.hid (AQ.out.below hW)
            replace g0 := hold hW g0
            clear hW u0 g1
            obtain ⟨k0, k1, k2, k3, k4, k5, k6, k7, k8, k9, k10, k11⟩ := AW1.out
            go_wp2_with fail
            by_cases s1 : y.sub.c = y.lim.c
            · have n1 : (y.sub.c == y.lim.c) = true := by simpa using s1
              rw [s1] at k8
              clear hfull s1
              as_aux_lemma =>
              refine wp_region_mono (by kernel_rfl) (by kernel_rfl) ?_
              simp only [List.map_cons, List.map_nil, List.append_eq, List.cons_append, List.nil_append]
              repeat (first
                | (apply wpM_is
                   · (intro us W hW hg K hK
                      clear hg
                      have d0 := hold hW g0
                      have d1 := hold hW k2
                      have d2 := hold hW k3
                      have d3 := hold hW k4
                      have d4 := hold hW k8
                      have d5 := hold hW k9
                      have d6 := hold hW k10
                      simp only [fillA]
                      go_simp
                      first
                      | exact hK _ (Below.refl _ _))
                   simp only [setD, List.set_cons_zero, List.set_cons_succ]))
              intro us2 W2 hW2 hg
              simp only [fillA]
              clear hg
              have BW2 := Lib.hid (below_tr BW.out hW2)
              clear hW2 g0 k0 k1 k2 k3 k4 k5 k6 k7 k8 k9 k10 k11
              go_wp2_with fail
              go_roundg (tl.length - (kk + 1))
              case rel => exact ⟨kk + 1, by go_num, Nat.le_refl _, hlt, BW2.out⟩
              case measure => have := HM.out; omega
            · have n1 : (y.sub.c != y.lim.c) = true := by simpa using s1
              by_cases s2 : y.sub.m = y.lim.m
              · rw [s2] at k9
                clear hfull s1 s2
                as_aux_lemma =>
                refine wp_region_mono (by kernel_rfl) (by kernel_rfl) ?_
                simp only [List.map_cons, List.map_nil, List.append_eq, List.cons_append, List.nil_append]
                repeat (first
                  | (apply wpM_is
                     · (intro us W hW hg K hK
                        clear hg
                        have d0 := hold hW g0
                        have d1 := hold hW k2
                        have d2 := hold hW k3
                        have d3 := hold hW k4
                        have d4 := hold hW k8
                        have d5 := hold hW k9
                        have d6 := hold hW k10
                        simp only [fillA]
                        go_simp
                        first
                        | exact hK _ (Below.refl _ _))
                     simp only [setD, List.set_cons_zero, List.set_cons_succ]))
                intro us2 W2 hW2 hg
                simp only [fillA]
                clear hg
                have BW2 := Lib.hid (below_tr BW.out hW2)
                clear hW2 g0 k0 k1 k2 k3 k4 k5 k6 k7 k8 k9 k10 k11
                go_wp2_with fail
                go_roundg (tl.length - (kk + 1))
                case rel => exact ⟨kk + 1, by go_num, Nat.le_refl _, hlt, BW2.out⟩
                case measure => have := HM.out; omega
              · have n2 : (y.sub.m != y.lim.m) = true := by simpa using s2
                have s3 : y.sub.p = y.lim.p := by rcases hfull with h | h | h; exact absurd h s1; exact absurd h s2; exact h
                rw [s3] at k10
                clear hfull s1 s2 s3
                as_aux_lemma =>
                refine wp_region_mono (by kernel_rfl) (by kernel_rfl) ?_
                simp only [List.map_cons, List.map_nil, List.append_eq, List.cons_append, List.nil_append]
                repeat (first
                  | (apply wpM_is
                     · (intro us W hW hg K hK
                        clear hg
                        have d0 := hold hW g0
                        have d1 := hold hW k2
                        have d2 := hold hW k3
                        have d3 := hold hW k4
                        have d4 := hold hW k8
                        have d5 := hold hW k9
                        have d6 := hold hW k10
                        simp only [fillA]
                        go_simp
                        first
                        | exact hK _ (Below.refl _ _))
                     simp only [setD, List.set_cons_zero, List.set_cons_succ]))
                intro us2 W2 hW2 hg
                simp only [fillA]
                clear hg
                have BW2 := Lib.hid (below_tr BW.out hW2)
                clear hW2 g0 k0 k1 k2 k3 k4 k5 k6 k7 k8 k9 k10 k11
                go_wp2_with fail
                go_roundg (tl.length - (kk + 1))
                case rel => exact ⟨kk + 1, by go_num, Nat.le_refl _, hlt, BW2.out⟩
                case measure => have := HM.out; omega
          · obtain rfl : kk = tl.length := by omega
            have BF := Lib.hid (below_tr (below_tr B1.out C8.out) BR.out)
            go_wp2_with fail
            with_reducible refine (AW.out _).mono ?_
            rintro e w10 ⟨rfl, hb⟩
            have B10 := Lib.hid (below_tr BF.out hb)
            clear hb
            go_wp2_with fail
            go_ret
            exact ⟨rfl, B10.out⟩
      | q + 3, h, _ => omega
end
end Go.Proofs.Ytffmmoligdoclaa
