/- The law of shape: a change of one changes no other one. -/
import Derived.Test.YtmpakgabehplbaaShL
import Derived.Test.YtmpakgabehplbaaTrV
import Derived.Deep.RegionHeld
namespace Go.Proofs.Ytmpakgabehplbaa
open Go.RowKit
set_option linter.unusedVariables false
set_option linter.unusedSimpArgs false
section
variable (w : World)
set_option maxHeartbeats 16000000 in
set_option maxRecDepth 100000 in
theorem law_shaperest (CC : CrC) (OC : DoC) (ns : List Nat) (nv : Value) (a b c : Nat) (ha : a ≤ 255) (hb : b ≤ 255) (hc : c ≤ 255) (h : NumsRd .u8 w nv (ns.map fun n : Nat => (n : Int))) (hr : ∀ x ∈ ns, x ≤ 255) (hmx : ns.length ≤ maxLen) : Calls Try.prog 5 #[nv, .int .u8 (a : Int), .int .u8 (b : Int), .int .u8 (c : Int)] w (Made (.bool true) w) := by
  have AW := Lib.hid (fun W => law_awake15 W CC)
  have NU := Lib.hid (fun W x => num15 W x)
  have HN := Lib.hid h
  have HRR := Lib.hid hr
  have OCC := Lib.hid OC
  obtain ⟨ao, cap, rfl, hat⟩ := h
  simp only [List.length_map] at HN ⊢
  clear hat hr CC OC
  unfold maxLen at hmx
  by_cases hbig : 90 < ns.length
  · have y0 : (90 : Int) < (ns.length : Int) := by omega
    go_enter Try.func5, Try.ntmps5
    go_wp2_with fail
    with_reducible refine (AW.out _).mono ?_
    rintro e w2 ⟨rfl, hb⟩
    have B2 := Lib.hid (hb)
    clear hb
    go_wp2_with fail
    go_ret
    exact ⟨rfl, B2.out⟩
  · have y0 : (ns.length : Int) ≤ 90 := by omega
    have MK := Lib.hid (lmakeT w ns (.slice ao ns.length cap) HN.out HRR.out (by omega))
    have MR := Lib.hid (make_right ns [] RT.nil (Nat.zero_le _))
    have LS := Lib.hid (fun W => lstep W a b c ha hb hc)
    have SNL := Lib.hid (show (stM a b c).name.size ≤ maxLen ∧ (stM a b c).par.size ≤ maxLen ∧ (stM a b c).name.size ≤ 1000000 from by
      have h1 : ∀ n, (letS n).size = 1 := fun _ => rfl
      refine ⟨?_, ?_, ?_⟩
      · show (letS (b % 25)).size ≤ maxLen
        rw [h1]; decide
      · show (if a % 4 = 0 ∨ a % 4 = 2 then (if c % 5 = 0 then (⟨#[]⟩ : ByteArray) else letS (c % 25)) else ⟨#[]⟩).size ≤ maxLen
        split
        · split
          · decide
          · rw [h1]; decide
        · decide
      · show (letS (b % 25)).size ≤ 1000000
        rw [h1]; decide)
    generalize makeT ns [] = l at *
    generalize stM a b c = st at *
    unfold St6.val at LS
    go_enter Try.func5, Try.ntmps5
    go_wp2_with fail
    with_reducible refine MK.out.mono ?_
    rintro e w1 ⟨lv0, rfl, hb1, ho1⟩
    have B1 := Lib.hid hb1
    have W1 := Lib.hid (irow_of_own ho1)
    obtain ⟨lo, lc, rfl⟩ := W1.out.shape
    clear hb1 ho1 MK
    have RR := Lib.hid MR.out.1
    have l24 : l.length ≤ 24 := MR.out.2
    go_wp2_with fail
    with_reducible refine (LS.out _).mono ?_
    rintro e w2 ⟨rfl, hb⟩
    have B2 := Lib.hid (below_tr B1.out hb)
    have W2 := Lib.hid (W1.out.below hb)
    have S2 := Lib.hid (SBlk.new w2 st)
    have Y2 := Lib.hid (below_al (Below.refl w2.heap.size w2) (.cells #[.int .i64 st.kind, .string st.name, .string st.par, .int .i64 st.lim.c, .int .i64 st.lim.m, .int .i64 st.lim.p] 26))
    have B3 := Lib.hid (below_tr B2.out Y2.out)
    have W3 := Lib.hid (W2.out.below Y2.out)
    clear hb LS W1 W2 B1 B2
    obtain ⟨n1, n2, n3⟩ := SNL.out
    go_upto_region 5 with fail
    generalize w2.alloc (.cells #[.int .i64 st.kind, .string st.name, .string st.par, .int .i64 st.lim.c, .int .i64 st.lim.m, .int .i64 st.lim.p] 26) = w3 at *
    generalize w2.heap.size = bs at *
    have OM := Lib.hid (OCC.out w3 l _ st (-1) W3.out RR.out n1 n2)
    clear n1 n2 n3 Y2
    unfold ShT St6.val at OM
    obtain ⟨c0, c1, c2, c3, c4, c5⟩ := S2.out.cells
    have DR := Lib.hid (fun (h0 : doE l st (-1) = 0) x (hx : x ∈ l) (hn : x.name ≠ st.name) => do_rest RR.out h0 hx hn)
    have DS := Lib.hid (fun (h0 : doE l st (-1) = 0) => do_self RR.out h0)
    have DK := Lib.hid (fun (h0 : doE l st (-1) = 0) => (do_ok RR.out h0).len)
    generalize doE l st (-1) = E at *
    generalize doL l st = m at *
    go_wp2_with fail
    with_reducible refine OM.out.mono ?_
    rintro e w4 ⟨r4, rfl, hb, h4⟩
    have B4 := Lib.hid (below_tr B3.out hb)
    have W4 := Lib.hid (W3.out.below hb)
    have S4 := Lib.hid (S2.out.below hb)
    clear hb c0 c1 c2 c3 c4 c5 B3 W3 S2 OM
    by_cases hE : E = 0
    · subst hE
      replace h4 : IRow w4 m r4 := h4
      have M4 := Lib.hid h4
      obtain ⟨mo, mc, rfl⟩ := h4.shape
      have m120 : m.length ≤ 120 := DK.out rfl
      clear h4
      go_wp2_with (go_at_call 27; (with_reducible refine (NU.out _ _).mono ?_); rintro e w'' ⟨rfl, rfl⟩)
      have L4 := Lib.hid W4.out
      clear W4
      go_loopg [13, 14] l.length (fun m' nv iv wr => ∃ k : Nat, iv = .int .i64 (k : Int) ∧ nv = .int .i64 ((delL (l.take k) st.name).length : Int) ∧ l.length - k ≤ m' ∧ k ≤ l.length ∧ Below w4.heap.size w4 wr)
      case atStart => exact ⟨0, rfl, rfl, Nat.le_refl _, Nat.zero_le _, Below.refl _ _⟩
      case round =>
        obtain ⟨k, rfl, rfl, hm, hk, hb⟩ := hrel
        have HM := Lib.hid hm
        have BR := Lib.hid hb
        have LR := Lib.hid (L4.out.below hb)
        have MR := Lib.hid (M4.out.below hb)
        have SR := Lib.hid (S4.out.below hb)
        clear hm hb
        by_cases hlt : k < l.length
        · have g1 : (k : Int) < (l.length : Int) := by omega
          have g0 : (0 : Int) ≤ (k : Int) := by omega
          obtain ⟨x, hx⟩ : ∃ x, l[k]? = some x := ⟨_, List.getElem?_eq_getElem hlt⟩
          have XM := Lib.hid (List.mem_of_getElem? hx)
          have XA := Lib.hid hx
          have DL := Lib.hid (del_step (s := st.name) hx)
          obtain ⟨gx, ox, rfl, hcx⟩ := LR.out.atP hx
          have x0 := hcx.c0
          obtain ⟨-, s1, -⟩ := SR.out.cells
          clear hx hcx
          have tn : (delL (l.take k) st.name).length ≤ 24 := Nat.le_trans (List.length_filter_le _ _) (by rw [List.length_take]; omega)
          by_cases hn : x.name = st.name
          · have e := tstr_is hn
            rw [if_pos hn] at DL
            clear hn
            go_upto_region 12 with fail
            refine wp_region_mono (by kernel_rfl) (by kernel_rfl) ?_
            simp only [List.map_cons, List.map_nil, List.append_eq, List.cons_append, List.nil_append]
            repeat (first
              | (apply wpM_is
                 · (intro us W hW hg K hK
                    clear hg
                    have d0 := hold hW x0
                    have d1 := hold hW s1
                    simp only [fillA]
                    go_simp
                    first
                    | exact hK _ (Below.refl _ _))
                 simp only [setD, List.set_cons_zero, List.set_cons_succ]))
            intro us W hW hg
            simp only [fillA]
            clear hg
            have BR1 := Lib.hid (below_tr BR.out hW)
            have LR1 := Lib.hid (LR.out.below hW)
            have MR1 := Lib.hid (MR.out.below hW)
            have SR1 := Lib.hid (SR.out.below hW)
            clear hW x0 s1 LR MR SR BR
            go_wp2_with fail
            go_roundg (l.length - (k + 1))
            case rel => exact ⟨k + 1, by go_num, by rw [DL.out], Nat.le_refl _, hlt, BR1.out⟩
            case measure => have := HM.out; omega
          · have e := tstr_ne hn
            rw [if_neg hn] at DL
            obtain ⟨q, y, hq, hy, hs⟩ := DR.out True.intro x XM.out hn
            clear hn
            go_upto_region 12 with fail
            refine wp_region_mono (by kernel_rfl) (by kernel_rfl) ?_
            simp only [List.map_cons, List.map_nil, List.append_eq, List.cons_append, List.nil_append]
            repeat (first
              | (apply wpM_is
                 · (intro us W hW hg K hK
                    clear hg
                    have d0 := hold hW x0
                    have d1 := hold hW s1
                    simp only [fillA]
                    go_simp
                    first
                    | exact hK _ (Below.refl _ _))
                 simp only [setD, List.set_cons_zero, List.set_cons_succ]))
            intro us W hW hg
            simp only [fillA]
            clear hg
            have BR1 := Lib.hid (below_tr BR.out hW)
            have LR1 := Lib.hid (LR.out.below hW)
            have MR1 := Lib.hid (MR.out.below hW)
            have SR1 := Lib.hid (SR.out.below hW)
            clear hW x0 s1 LR MR SR BR
            obtain ⟨gx, ox, ex, hcx⟩ := LR1.out.atP XA.out
            cases ex
            have x0 := hcx.c0
            have F1 := Lib.hid (rfind W m _ MR1.out x.name)
            rw [hq] at F1
            go_wp2_with fail
            with_reducible refine F1.out.mono ?_
            rintro e w' ⟨rfl, rfl⟩
            obtain ⟨gy, oy, ey, hcy⟩ := MR1.out.atP hy
            cases ey
            go_upto_region 17 with fail
            have q0 : (0 : Int) ≤ (q : Int) := by omega
            have q1 : (q : Int) < (m.length : Int) := by have := (List.getElem?_eq_some_iff.1 hy).1; omega
            have nx := World.new_ne _ _ x0
            have ny := World.new_ne _ _ hcy.c0
            simp only at nx ny
            have nx1 : gx ≠ W.heap.size := fun e => nx e.symm
            have ny1 : gy ≠ W.heap.size := fun e => ny e.symm
            have nx2 : W.heap.size + 1 ≠ gx := by have := World.block_lt_of_cell? _ _ x0; simp only at this; omega
            have ny2 : W.heap.size + 1 ≠ gy := by have := World.block_lt_of_cell? _ _ hcy.c0; simp only at this; omega
            obtain ⟨x0, x1, x2, x3, x4, x5, x6, x7, x8, x9, x10, x11⟩ := hcx
            obtain ⟨y0, y1, y2, y3, y4, y5, y6, y7, y8, y9, y10, y11⟩ := hcy
            clear hy F1 e
            go_region_held (fun w' => w'.cell? ⟨gx, ox + k * 12, none⟩ = some (.string x.name) ∧ w'.cell? ⟨gx, ox + k * 12 + 1, none⟩ = some (.string x.parent) ∧ w'.cell? ⟨gx, ox + k * 12 + 2, none⟩ = some (.int .i64 x.lim.c) ∧ w'.cell? ⟨gx, ox + k * 12 + 3, none⟩ = some (.int .i64 x.lim.m) ∧ w'.cell? ⟨gx, ox + k * 12 + 4, none⟩ = some (.int .i64 x.lim.p) ∧ w'.cell? ⟨gx, ox + k * 12 + 5, none⟩ = some (.int .i64 x.own.c) ∧ w'.cell? ⟨gx, ox + k * 12 + 6, none⟩ = some (.int .i64 x.own.m) ∧ w'.cell? ⟨gx, ox + k * 12 + 7, none⟩ = some (.int .i64 x.own.p) ∧ w'.cell? ⟨gx, ox + k * 12 + 8, none⟩ = some (.int .i64 x.sub.c) ∧ w'.cell? ⟨gx, ox + k * 12 + 9, none⟩ = some (.int .i64 x.sub.m) ∧ w'.cell? ⟨gx, ox + k * 12 + 10, none⟩ = some (.int .i64 x.sub.p) ∧ w'.cell? ⟨gx, ox + k * 12 + 11, none⟩ = some (.int .i64 x.ver) ∧ w'.cell? ⟨gy, oy + q * 12, none⟩ = some (.string y.name) ∧ w'.cell? ⟨gy, oy + q * 12 + 1, none⟩ = some (.string y.parent) ∧ w'.cell? ⟨gy, oy + q * 12 + 2, none⟩ = some (.int .i64 y.lim.c) ∧ w'.cell? ⟨gy, oy + q * 12 + 3, none⟩ = some (.int .i64 y.lim.m) ∧ w'.cell? ⟨gy, oy + q * 12 + 4, none⟩ = some (.int .i64 y.lim.p) ∧ w'.cell? ⟨gy, oy + q * 12 + 5, none⟩ = some (.int .i64 y.own.c) ∧ w'.cell? ⟨gy, oy + q * 12 + 6, none⟩ = some (.int .i64 y.own.m) ∧ w'.cell? ⟨gy, oy + q * 12 + 7, none⟩ = some (.int .i64 y.own.p) ∧ w'.cell? ⟨gy, oy + q * 12 + 8, none⟩ = some (.int .i64 y.sub.c) ∧ w'.cell? ⟨gy, oy + q * 12 + 9, none⟩ = some (.int .i64 y.sub.m) ∧ w'.cell? ⟨gy, oy + q * 12 + 10, none⟩ = some (.int .i64 y.sub.p) ∧ w'.cell? ⟨gy, oy + q * 12 + 11, none⟩ = some (.int .i64 y.ver)) (go_keep) (fail)
            · have IX := Lib.hid (show IBlk ((W.alloc (.cells #[.string x.name, .string x.parent, .int .i64 x.lim.c, .int .i64 x.lim.m, .int .i64 x.lim.p, .int .i64 x.own.c, .int .i64 x.own.m, .int .i64 x.own.p, .int .i64 x.sub.c, .int .i64 x.sub.m, .int .i64 x.sub.p, .int .i64 x.ver] 52)).alloc (.cells #[.string y.name, .string y.parent, .int .i64 y.lim.c, .int .i64 y.lim.m, .int .i64 y.lim.p, .int .i64 y.own.c, .int .i64 y.own.m, .int .i64 y.own.p, .int .i64 y.sub.c, .int .i64 y.sub.m, .int .i64 y.sub.p, .int .i64 y.ver] 52)) W.heap.size x from (IBlk.new W x).below (below_al (Below.refl _ _) _))
              have IY := Lib.hid (show IBlk ((W.alloc (.cells #[.string x.name, .string x.parent, .int .i64 x.lim.c, .int .i64 x.lim.m, .int .i64 x.lim.p, .int .i64 x.own.c, .int .i64 x.own.m, .int .i64 x.own.p, .int .i64 x.sub.c, .int .i64 x.sub.m, .int .i64 x.sub.p, .int .i64 x.ver] 52)).alloc (.cells #[.string y.name, .string y.parent, .int .i64 y.lim.c, .int .i64 y.lim.m, .int .i64 y.lim.p, .int .i64 y.own.c, .int .i64 y.own.m, .int .i64 y.own.p, .int .i64 y.sub.c, .int .i64 y.sub.m, .int .i64 y.sub.p, .int .i64 y.ver] 52)) (W.heap.size + 1) y from heap_at (by simp))
              have BX := Lib.hid (show Below w4.heap.size w4 ((W.alloc (.cells #[.string x.name, .string x.parent, .int .i64 x.lim.c, .int .i64 x.lim.m, .int .i64 x.lim.p, .int .i64 x.own.c, .int .i64 x.own.m, .int .i64 x.own.p, .int .i64 x.sub.c, .int .i64 x.sub.m, .int .i64 x.sub.p, .int .i64 x.ver] 52)).alloc (.cells #[.string y.name, .string y.parent, .int .i64 y.lim.c, .int .i64 y.lim.m, .int .i64 y.lim.p, .int .i64 y.own.c, .int .i64 y.own.m, .int .i64 y.own.p, .int .i64 y.sub.c, .int .i64 y.sub.m, .int .i64 y.sub.p, .int .i64 y.ver] 52)) from below_tr BR1.out (below_al (below_al (Below.refl _ _) _) _))
              have GX := Lib.hid (show w4.heap.size ≤ W.heap.size ∧ (W.heap.size + 1) ≠ W.heap.size from by have := BR1.out.size; omega)
              clear x0 x1 x2 x3 x4 x5 x6 x7 x8 x9 x10 x11 y0 y1 y2 y3 y4 y5 y6 y7 y8 y9 y10 y11 nx1 ny1 nx2 ny2 nx ny
              generalize ((W.alloc (.cells #[.string x.name, .string x.parent, .int .i64 x.lim.c, .int .i64 x.lim.m, .int .i64 x.lim.p, .int .i64 x.own.c, .int .i64 x.own.m, .int .i64 x.own.p, .int .i64 x.sub.c, .int .i64 x.sub.m, .int .i64 x.sub.p, .int .i64 x.ver] 52)).alloc (.cells #[.string y.name, .string y.parent, .int .i64 y.lim.c, .int .i64 y.lim.m, .int .i64 y.lim.p, .int .i64 y.own.c, .int .i64 y.own.m, .int .i64 y.own.p, .int .i64 y.sub.c, .int .i64 y.sub.m, .int .i64 y.sub.p, .int .i64 y.ver] 52)) = wx at *
              generalize hbx : W.heap.size = bx at *
              generalize hby : (W.heap.size + 1) = yb at *
              clear hbx hby
              obtain ⟨x0, x1, x2, x3, x4, x5, x6, x7, x8, x9, x10, x11⟩ := IX.out.cells
              obtain ⟨y0, y1, y2, y3, y4, y5, y6, y7, y8, y9, y10, y11⟩ := IY.out.cells
              have f8 := IX.out.free 8
              have f9 := IX.out.free 9
              have f10 := IX.out.free 10
              go_upto_region 19 with fail
              have IX2 := Lib.hid (IX.out.setSub y.sub)
              have IY2 := Lib.hid (((IY.out.far GX.out.2 8 (.int .i64 y.sub.c)).far GX.out.2 9 (.int .i64 y.sub.m)).far GX.out.2 10 (.int .i64 y.sub.p))
              have BX2 := Lib.hid (show Below w4.heap.size w4 (((wx.setCell ⟨bx, 8, none⟩ (.int .i64 y.sub.c)).setCell ⟨bx, 9, none⟩ (.int .i64 y.sub.m)).setCell ⟨bx, 10, none⟩ (.int .i64 y.sub.p)) from ((BX.out.setCell GX.out.1 _).setCell GX.out.1 _).setCell GX.out.1 _)
              rw [hs.eq] at IX2
              clear x0 x1 x2 x3 x4 x5 x6 x7 x8 x9 x10 x11 y0 y1 y2 y3 y4 y5 y6 y7 y8 y9 y10 y11 f8 f9 f10 IX IY BX
              generalize (((wx.setCell ⟨bx, 8, none⟩ (.int .i64 y.sub.c)).setCell ⟨bx, 9, none⟩ (.int .i64 y.sub.m)).setCell ⟨bx, 10, none⟩ (.int .i64 y.sub.p)) = wz at *
              obtain ⟨x0, x1, x2, x3, x4, x5, x6, x7, x8, x9, x10, x11⟩ := IX2.out.cells
              obtain ⟨y0, y1, y2, y3, y4, y5, y6, y7, y8, y9, y10, y11⟩ := IY2.out.cells
              have BF := Lib.hid BX2.out
              clear IX2 IY2 BX2
              go_wp2_with fail
              go_roundg (l.length - (k + 1))
              case rel => exact ⟨k + 1, by go_num, by rw [DL.out]; push_cast; rfl, Nat.le_refl _, hlt, BF.out.drew⟩
              case measure => have := HM.out; omega
            · have IX := Lib.hid (show IBlk ((W.alloc (.cells #[.string y.name, .string y.parent, .int .i64 y.lim.c, .int .i64 y.lim.m, .int .i64 y.lim.p, .int .i64 y.own.c, .int .i64 y.own.m, .int .i64 y.own.p, .int .i64 y.sub.c, .int .i64 y.sub.m, .int .i64 y.sub.p, .int .i64 y.ver] 52)).alloc (.cells #[.string x.name, .string x.parent, .int .i64 x.lim.c, .int .i64 x.lim.m, .int .i64 x.lim.p, .int .i64 x.own.c, .int .i64 x.own.m, .int .i64 x.own.p, .int .i64 x.sub.c, .int .i64 x.sub.m, .int .i64 x.sub.p, .int .i64 x.ver] 52)) (W.heap.size + 1) x from heap_at (by simp))
              have IY := Lib.hid (show IBlk ((W.alloc (.cells #[.string y.name, .string y.parent, .int .i64 y.lim.c, .int .i64 y.lim.m, .int .i64 y.lim.p, .int .i64 y.own.c, .int .i64 y.own.m, .int .i64 y.own.p, .int .i64 y.sub.c, .int .i64 y.sub.m, .int .i64 y.sub.p, .int .i64 y.ver] 52)).alloc (.cells #[.string x.name, .string x.parent, .int .i64 x.lim.c, .int .i64 x.lim.m, .int .i64 x.lim.p, .int .i64 x.own.c, .int .i64 x.own.m, .int .i64 x.own.p, .int .i64 x.sub.c, .int .i64 x.sub.m, .int .i64 x.sub.p, .int .i64 x.ver] 52)) W.heap.size y from (IBlk.new W y).below (below_al (Below.refl _ _) _))
              have BX := Lib.hid (show Below w4.heap.size w4 ((W.alloc (.cells #[.string y.name, .string y.parent, .int .i64 y.lim.c, .int .i64 y.lim.m, .int .i64 y.lim.p, .int .i64 y.own.c, .int .i64 y.own.m, .int .i64 y.own.p, .int .i64 y.sub.c, .int .i64 y.sub.m, .int .i64 y.sub.p, .int .i64 y.ver] 52)).alloc (.cells #[.string x.name, .string x.parent, .int .i64 x.lim.c, .int .i64 x.lim.m, .int .i64 x.lim.p, .int .i64 x.own.c, .int .i64 x.own.m, .int .i64 x.own.p, .int .i64 x.sub.c, .int .i64 x.sub.m, .int .i64 x.sub.p, .int .i64 x.ver] 52)) from below_tr BR1.out (below_al (below_al (Below.refl _ _) _) _))
              have GX := Lib.hid (show w4.heap.size ≤ (W.heap.size + 1) ∧ W.heap.size ≠ (W.heap.size + 1) from by have := BR1.out.size; omega)
              clear x0 x1 x2 x3 x4 x5 x6 x7 x8 x9 x10 x11 y0 y1 y2 y3 y4 y5 y6 y7 y8 y9 y10 y11 nx1 ny1 nx2 ny2 nx ny
              generalize ((W.alloc (.cells #[.string y.name, .string y.parent, .int .i64 y.lim.c, .int .i64 y.lim.m, .int .i64 y.lim.p, .int .i64 y.own.c, .int .i64 y.own.m, .int .i64 y.own.p, .int .i64 y.sub.c, .int .i64 y.sub.m, .int .i64 y.sub.p, .int .i64 y.ver] 52)).alloc (.cells #[.string x.name, .string x.parent, .int .i64 x.lim.c, .int .i64 x.lim.m, .int .i64 x.lim.p, .int .i64 x.own.c, .int .i64 x.own.m, .int .i64 x.own.p, .int .i64 x.sub.c, .int .i64 x.sub.m, .int .i64 x.sub.p, .int .i64 x.ver] 52)) = wx at *
              generalize hbx : (W.heap.size + 1) = bx at *
              generalize hby : W.heap.size = yb at *
              clear hbx hby
              obtain ⟨x0, x1, x2, x3, x4, x5, x6, x7, x8, x9, x10, x11⟩ := IX.out.cells
              obtain ⟨y0, y1, y2, y3, y4, y5, y6, y7, y8, y9, y10, y11⟩ := IY.out.cells
              have f8 := IX.out.free 8
              have f9 := IX.out.free 9
              have f10 := IX.out.free 10
              go_upto_region 19 with fail
              have IX2 := Lib.hid (IX.out.setSub y.sub)
              have IY2 := Lib.hid (((IY.out.far GX.out.2 8 (.int .i64 y.sub.c)).far GX.out.2 9 (.int .i64 y.sub.m)).far GX.out.2 10 (.int .i64 y.sub.p))
              have BX2 := Lib.hid (show Below w4.heap.size w4 (((wx.setCell ⟨bx, 8, none⟩ (.int .i64 y.sub.c)).setCell ⟨bx, 9, none⟩ (.int .i64 y.sub.m)).setCell ⟨bx, 10, none⟩ (.int .i64 y.sub.p)) from ((BX.out.setCell GX.out.1 _).setCell GX.out.1 _).setCell GX.out.1 _)
              rw [hs.eq] at IX2
              clear x0 x1 x2 x3 x4 x5 x6 x7 x8 x9 x10 x11 y0 y1 y2 y3 y4 y5 y6 y7 y8 y9 y10 y11 f8 f9 f10 IX IY BX
              generalize (((wx.setCell ⟨bx, 8, none⟩ (.int .i64 y.sub.c)).setCell ⟨bx, 9, none⟩ (.int .i64 y.sub.m)).setCell ⟨bx, 10, none⟩ (.int .i64 y.sub.p)) = wz at *
              obtain ⟨x0, x1, x2, x3, x4, x5, x6, x7, x8, x9, x10, x11⟩ := IX2.out.cells
              obtain ⟨y0, y1, y2, y3, y4, y5, y6, y7, y8, y9, y10, y11⟩ := IY2.out.cells
              have BF := Lib.hid BX2.out
              clear IX2 IY2 BX2
              go_wp2_with fail
              go_roundg (l.length - (k + 1))
              case rel => exact ⟨k + 1, by go_num, by rw [DL.out]; push_cast; rfl, Nat.le_refl _, hlt, BF.out.drew⟩
              case measure => have := HM.out; omega
        · obtain rfl : k = l.length := by omega
          have DT := Lib.hid (DS.out True.intro)
          rw [List.take_length]
          have F1 := Lib.hid (fun W (hW : Below wr.heap.size wr W) => rfind W m _ (MR.out.below hW) st.name)
          obtain ⟨s0, s1, -⟩ := SR.out.cells
          generalize hF : findI m st.name = F at *
          have m1 : (m.length : Int) ≤ 120 := by omega
          have t24 : ((delL l st.name).length : Int) ≤ 24 := by have := List.length_filter_le (fun x : I12 => !decide (x.name = st.name)) l; unfold delL; omega
          have ww : IntKind.i64.wrap (((delL l st.name).length : Int) + 1) = ((delL l st.name).length : Int) + 1 := by rw [IntKind.wrap_i64]; omega
          by_cases h4 : st.kind = 4
          · rw [if_pos h4] at DT
            obtain ⟨e1, e2⟩ := DT.out
            subst e1
            have e3 : (m.length : Int) = ((delL l st.name).length : Int) := by omega
            clear e2
            rw [h4] at s0
            go_wp2_with fail
            with_reducible refine (F1.out _ (Below.refl _ _)).mono ?_
            rintro e w' ⟨rfl, rfl⟩
            go_wp2_with fail
            with_reducible refine (AW.out _).mono ?_
            rintro e w5 ⟨rfl, hb⟩
            have B5 := Lib.hid (below_tr (below_tr B4.out BR.out) hb)
            clear hb
            go_wp2_with fail
            go_ret
            exact ⟨rfl, B5.out⟩
          · rw [if_neg h4] at DT
            obtain ⟨e1, e2⟩ := DT.out
            have e3 : (m.length : Int) = ((delL l st.name).length : Int) + 1 := by omega
            clear e2
            have e4 : (st.kind == 4) = false := beq_false_of_ne h4
            have e5 : ¬ F < 0 := by omega
            clear h4
            go_wp2_with fail
            with_reducible refine (F1.out _ (Below.refl _ _)).mono ?_
            rintro e w' ⟨rfl, rfl⟩
            go_wp2_with fail
            with_reducible refine (AW.out _).mono ?_
            rintro e w5 ⟨rfl, hb⟩
            have B5 := Lib.hid (below_tr (below_tr B4.out BR.out) hb)
            clear hb
            go_wp2_with fail
            go_ret
            exact ⟨rfl, B5.out⟩
    · replace h4 : IRow w4 [] r4 := by rw [if_neg hE] at h4; exact h4
      obtain ⟨mo, mc, rfl⟩ := h4.shape
      have ne : ((E : Int) != 0) = true := by simp; omega
      have ne2 : ((E : Int) == 0) = false := beq_false_of_ne (by omega)
      have ne3 : ¬ (E : Int) = 0 := by omega
      clear h4 hE
      go_wp2_with (go_at_call 27; (with_reducible refine (NU.out _ _).mono ?_); rintro e w'' ⟨rfl, rfl⟩)
      with_reducible refine (AW.out _).mono ?_
      rintro e w5 ⟨rfl, hb⟩
      have B5 := Lib.hid (below_tr B4.out hb)
      clear hb
      go_wp2_with fail
      go_ret
      exact ⟨rfl, B5.out⟩
end
end Go.Proofs.Ytmpakgabehplbaa
