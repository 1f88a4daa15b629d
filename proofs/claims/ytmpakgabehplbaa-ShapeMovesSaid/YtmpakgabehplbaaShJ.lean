/- The law of shape: trees and steps made by numbers, one behind the other. -/
import Derived.Test.YtmpakgabehplbaaShI
import Derived.Test.YtmpakgabehplbaaTrV
namespace Go.Proofs.Ytmpakgabehplbaa
open Go.RowKit
set_option linter.unusedVariables false
set_option linter.unusedSimpArgs false
section
variable (w : World)
set_option maxHeartbeats 16000000 in
set_option maxRecDepth 100000 in
theorem law_shapemade (CC : CrC) (OC : DoC) (ns ms : List Nat) (nv mv : Value) (vn : Nat) (hvn : vn ≤ 255) (h : NumsRd .u8 w nv (ns.map fun n : Nat => (n : Int))) (hr : ∀ x ∈ ns, x ≤ 255) (hmx : ns.length ≤ maxLen)
    (h2 : NumsRd .u8 w mv (ms.map fun n : Nat => (n : Int))) (hr2 : ∀ x ∈ ms, x ≤ 255) (hmx2 : ms.length ≤ maxLen) : Calls Try.prog 4 #[nv, mv, .int .u8 (vn : Int)] w (Made (.bool true) w) := by
  have AW := Lib.hid (fun W => law_awake15 W CC)
  have HN := Lib.hid h
  have HRR := Lib.hid hr
  have HN2 := Lib.hid h2
  have HRR2 := Lib.hid hr2
  have OCC := Lib.hid OC
  obtain ⟨ao, cap, rfl, hat⟩ := h
  obtain ⟨mo, mc, rfl, hat2⟩ := h2
  have HAT2 := Lib.hid hat2
  simp only [List.length_map] at HN HN2 ⊢
  clear hat hr hat2 hr2 CC OC
  unfold maxLen at hmx hmx2
  by_cases hbig : 90 < ns.length
  · have y0 : (90 : Int) < (ns.length : Int) := by omega
    go_enter Try.func4, Try.ntmps4
    go_wp2_with fail
    with_reducible refine (AW.out _).mono ?_
    rintro e w2 ⟨rfl, hb⟩
    have B2 := Lib.hid (hb)
    clear hb
    go_wp2_with fail
    go_ret
    exact ⟨rfl, B2.out⟩
  · by_cases hbig2 : 60 < ms.length
    · have y0 : (ns.length : Int) ≤ 90 := by omega
      have y1 : (60 : Int) < (ms.length : Int) := by omega
      go_enter Try.func4, Try.ntmps4
      go_wp2_with fail
      with_reducible refine (AW.out _).mono ?_
      rintro e w2 ⟨rfl, hb⟩
      have B2 := Lib.hid (hb)
      clear hb
      go_wp2_with fail
      go_ret
      exact ⟨rfl, B2.out⟩
    · have y0 : (ns.length : Int) ≤ 90 := by omega
      have y1 : (ms.length : Int) ≤ 60 := by omega
      have MK := Lib.hid (lmakeT w ns (.slice ao ns.length cap) HN.out HRR.out (by omega))
      have MR := Lib.hid (make_right ns [] RT.nil (Nat.zero_le _))
      generalize makeT ns [] = l0 at *
      go_enter Try.func4, Try.ntmps4
      go_wp2_with fail
      with_reducible refine MK.out.mono ?_
      rintro e w1 ⟨lv0, rfl, hb1, ho1⟩
      have B1 := Lib.hid hb1
      have W1 := Lib.hid (irow_of_own ho1)
      obtain ⟨lo, lc, rfl⟩ := W1.out.shape
      clear hb1 ho1 MK
      have m60 := Lib.hid (show ms.length ≤ 60 by omega)
      go_wp2_with fail
      go_loopg [7, 8] ms.length (fun m lv iv wr => ∃ (k : Nat) (l : List I12), iv = .int .i64 (k : Int) ∧ ms.length - k ≤ m ∧ k ≤ ms.length ∧ RT l ∧ Below w1.heap.size w1 wr ∧ IRow wr l lv)
      case atStart => exact ⟨0, l0, rfl, Nat.le_refl _, Nat.zero_le _, MR.out.1, Below.refl _ _, W1.out⟩
      case round =>
        obtain ⟨k, l, rfl, hm, hk, hrt, hb, hi⟩ := hrel
        have HM := Lib.hid hm
        have RR := Lib.hid hrt
        have BR := Lib.hid hb
        have IR := Lib.hid hi
        have k60 : (k : Int) ≤ 60 := by have := m60.out; omega
        obtain ⟨ro, rc, rfl⟩ := hi.shape
        clear hm hrt hb hi
        by_cases hlt : k + 2 < ms.length
        · have g1 : (k : Int) + 2 < (ms.length : Int) := by omega
          have g0 : (0 : Int) ≤ (k : Int) := by omega
          have g2 : (k : Int) < (ms.length : Int) := by omega
          have g3 : (0 : Int) ≤ (k : Int) + 1 := by omega
          have g4 : (k : Int) + 1 < (ms.length : Int) := by omega
          have g5 : (0 : Int) ≤ (k : Int) + 2 := by omega
          obtain ⟨a, ha⟩ : ∃ a, ms[k]? = some a := ⟨_, List.getElem?_eq_getElem (by omega)⟩
          obtain ⟨b, hb⟩ : ∃ b, ms[k + 1]? = some b := ⟨_, List.getElem?_eq_getElem (by omega)⟩
          obtain ⟨c, hc⟩ : ∃ c, ms[k + 2]? = some c := ⟨_, List.getElem?_eq_getElem hlt⟩
          obtain ⟨gm, om, rfl, ca⟩ := HAT2.out k (a : Int) (by rw [List.getElem?_map, ha]; rfl)
          obtain ⟨_, _, e9, cb⟩ := HAT2.out (k + 1) (b : Int) (by rw [List.getElem?_map, hb]; rfl)
          cases e9
          obtain ⟨_, _, e9, cc⟩ := HAT2.out (k + 2) (c : Int) (by rw [List.getElem?_map, hc]; rfl)
          cases e9
          have LS := Lib.hid (fun W => lstep W a b c (HRR2.out a (List.mem_of_getElem? ha)) (HRR2.out b (List.mem_of_getElem? hb)) (HRR2.out c (List.mem_of_getElem? hc)))
          have BW := Lib.hid (B1.out.trans (BR.out.mono B1.out.size))
          have k0 := hold BW.out ca
          have k1 := hold BW.out cb
          have k2 := hold BW.out cc
          have wk1 : IntKind.i64.wrap ((k : Int) + 1) = (k : Int) + 1 := by rw [IntKind.wrap_i64]; omega
          have wk2 : IntKind.i64.wrap ((k : Int) + 2) = (k : Int) + 2 := by rw [IntKind.wrap_i64]; omega
          have tk1 : ((k : Int) + 1).toNat = k + 1 := by omega
          have tk2 : ((k : Int) + 2).toNat = k + 2 := by omega
          have SNL := Lib.hid (show (stM a b c).name.size ≤ maxLen ∧ (stM a b c).par.size ≤ maxLen ∧ (stM a b c).name.size ≤ 1000000 from by
            have h1 : ∀ n, (letS n).size = 1 := fun _ => rfl
            refine ⟨?_, ?_, ?_⟩
            · show (letS (b % 25)).size ≤ maxLen
              rw [h1]; decide
            · show (if a % 4 = 0 ∨ a % 4 = 2 then (if c % 5 = 0 then (⟨#[]⟩ : ByteArray) else letS (c % 25)) else ⟨#[]⟩).size ≤ maxLen
              split
              · split
                · decide
                · rw [h1]; decide
              · decide
            · show (letS (b % 25)).size ≤ 1000000
              rw [h1]; decide)
          generalize stM a b c = st at *
          unfold St6.val at LS
          clear ha hb hc ca cb cc
          go_upto_region 7 with fail
          refine wp_region_mono_tail 16 (by kernel_rfl) (by kernel_rfl) (Nat.le_of_ble_eq_true (by kernel_rfl)) (by kernel_rfl) ?_
          simp only [List.map_cons, List.map_nil]
          simp only [List.take_succ_cons, List.take_zero, List.drop_succ_cons, List.drop_zero]
          repeat (first
            | (apply wpM_is
               · (intro us W hW hg K hK
                  clear hg
                  have d0 := hold hW k0
                  have d1 := hold hW k1
                  have d2 := hold hW k2
                  simp only [fillA]
                  go_simp
                  first
                  | exact hK _ (Below.refl _ _)
                  | ((with_reducible refine (LS.out _).mono ?_); rintro e w' ⟨rfl, hb⟩; exact hK _ hb))
               simp only [setD, List.set_cons_zero, List.set_cons_succ]))
          refine wpM_any (fun z W => ∃ b, z = .pointer (some ⟨b, 0, none⟩) ∧ wr.heap.size ≤ b ∧ SBlk W b ⟨0, ⟨#[]⟩, ⟨#[]⟩, z3⟩) (fun z W W' h hb => by obtain ⟨b, h1, h2, h3⟩ := h; exact ⟨b, h1, h2, h3.below hb⟩) ?_ ?_
          · intro us W hW hg K hK
            clear hg
            have hsz := hW.size
            simp only [fillA]
            go_simp
            exact hK _ _ ⟨_, rfl, hsz, SBlk.new W ⟨0, ⟨#[]⟩, ⟨#[]⟩, z3⟩⟩ (below_al (Below.refl _ _) _)
          simp only [setD, List.set_cons_zero, List.set_cons_succ]
          intro us W hW hg
          obtain ⟨bs, ebs, hbs, NS⟩ := hg 9 _ rfl
          simp only [fillA]
          clear hg
          rw [ebs]
          obtain ⟨c0, c1, c2, c3, c4, c5⟩ := NS.cells
          have f0 := NS.free 0
          have f1 := NS.free 1
          have f2 := NS.free 2
          have f3 := NS.free 3
          have f4 := NS.free 4
          have f5 := NS.free 5
          have S1 := Lib.hid (NS.set st)
          have D1 := Lib.hid (show Below wr.heap.size wr ((((((W.setCell ⟨bs, 0, none⟩ (.int .i64 st.kind)).setCell ⟨bs, 1, none⟩ (.string st.name)).setCell ⟨bs, 2, none⟩ (.string st.par)).setCell ⟨bs, 3, none⟩ (.int .i64 st.lim.c)).setCell ⟨bs, 4, none⟩ (.int .i64 st.lim.m)).setCell ⟨bs, 5, none⟩ (.int .i64 st.lim.p)) from (((((hW.setCell hbs _).setCell hbs _).setCell hbs _).setCell hbs _).setCell hbs _).setCell hbs _)
          clear NS hW hbs ebs k0 k1 k2
          simp only [z3] at c0 c1 c2 c3 c4 c5
          go_upto_region 8 with fail
          generalize ((((((W.setCell ⟨bs, 0, none⟩ (.int .i64 st.kind)).setCell ⟨bs, 1, none⟩ (.string st.name)).setCell ⟨bs, 2, none⟩ (.string st.par)).setCell ⟨bs, 3, none⟩ (.int .i64 st.lim.c)).setCell ⟨bs, 4, none⟩ (.int .i64 st.lim.m)).setCell ⟨bs, 5, none⟩ (.int .i64 st.lim.p)) = ws at *
          clear c0 c1 c2 c3 c4 c5 f0 f1 f2 f3 f4 f5
          go_upto_region 9 with fail
          generalize (vn : Int) % 5 - 2 = ver at *
          obtain ⟨n1, n2, n3⟩ := SNL.out
          have OM := Lib.hid (fun V (hV : Below wr.heap.size wr V) => OCC.out V l _ st ver (IR.out.below hV) RR.out n1 n2)
          have RD := Lib.hid (fun V (hV : Below wr.heap.size wr V) => rdo V l _ (IR.out.below hV) RR.out st ver n3)
          have LD := Lib.hid (show (if doE l st ver = 0 then doL l st else []).length ≤ 120 ∧ (doE l st ver = 0 → RT (if doE l st ver = 0 then doL l st else [])) from by
            by_cases e : doE l st ver = 0
            · rw [if_pos e]; exact ⟨(do_ok RR.out e).len, fun _ => do_ok RR.out e⟩
            · rw [if_neg e]; exact ⟨Nat.zero_le _, fun h => absurd h e⟩)
          unfold ShT at OM
          unfold GrownI at RD
          unfold St6.val at OM RD
          generalize (if doE l st ver = 0 then doL l st else []) = L at *
          generalize doE l st ver = E at *
          clear n1 n2 n3 SNL LS
          obtain ⟨c0, c1, c2, c3, c4, c5⟩ := S1.out.cells
          go_wp2_with fail
          with_reducible refine (OM.out _ D1.out).mono ?_
          rintro e w5 ⟨r5, rfl, hb, h5⟩
          have D5 := Lib.hid (below_tr D1.out hb)
          have S5 := Lib.hid (S1.out.below hb)
          have R5 := Lib.hid h5
          obtain ⟨ro5, rc5, rfl⟩ := h5.shape
          clear hb h5 c0 c1 c2 c3 c4 c5
          obtain ⟨c0, c1, c2, c3, c4, c5⟩ := S5.out.cells
          go_wp2_with fail
          with_reducible refine (RD.out _ D5.out).mono ?_
          rintro e w6 ⟨r6, rfl, hb, h6⟩
          have D6 := Lib.hid (below_tr D5.out hb)
          have R6 := Lib.hid (R5.out.below hb)
          have X6 := Lib.hid (irow_of_own h6)
          obtain ⟨ro6, rc6, rfl⟩ := X6.out.shape
          have Y6 := Lib.hid (below_al (Below.refl w6.heap.size w6) (.cells #[.slice ro6 L.length rc6, .int .i64 (E : Int)] 38))
          have G7 := Lib.hid (GBlk.new w6 (.slice ro6 L.length rc6) (E : Int))
          have FR := Lib.hid (below_tr D6.out Y6.out)
          have AR := Lib.hid (R6.out.below Y6.out)
          have XR := Lib.hid (X6.out.below Y6.out)
          clear hb h6 R5 R6 X6 c0 c1 c2 c3 c4 c5
          go_upto_region 11 with fail
          generalize w6.heap.size = b6 at *
          generalize w6.alloc (.cells #[.slice ro6 L.length rc6, .int .i64 (E : Int)] 38) = wc at *
          have M1 := Lib.hid (fun W (hW : Below wc.heap.size wc W) => psame15 W L _ _ E (AR.out.below hW) (XR.out.below hW) LD.out.1)
          obtain ⟨g0, g1⟩ := G7.out.cells
          have IW := Lib.hid (show IRow wc l (.slice ro l.length rc) from IR.out.below FR.out)
          clear OM RD
          by_cases hE0 : E = 0
          · have TE := Lib.hid (LD.out.2 hE0)
            have RG := Lib.hid (fun W (hW : Below wc.heap.size wc W) => rright W L _ (AR.out.below hW) (fun x hx => (TE.out.short x hx).1) true (iff_of_true rfl (right_iff.2 TE.out)))
            subst hE0
            have g1' : wc.cell? ⟨b6, 1, none⟩ = some (.int .i64 0) := g1
            have M1' := Lib.hid (fun W (hW : Below wc.heap.size wc W) => show Calls Try.prog 18 #[.slice ro5 L.length rc5, .int .i64 0, .agg #[.slice ro6 L.length rc6, .int .i64 0]] W (Made (.bool true) W) from M1.out W hW)
            replace g1 := g1'
            clear g1' M1
            have M1 := M1'
            clear M1'
            go_wp2_with fail
            with_reducible refine (M1.out _ (Below.refl _ _)).mono ?_
            rintro e w8 ⟨rfl, hb⟩
            have hW := hb
            have d0 := hold hb g0
            have d1 := hold hb g1
            clear hb
            go_wp2_with fail
            with_reducible refine (RG.out _ hW).mono ?_
            rintro e w9 ⟨rfl, hb⟩
            replace hW := below_tr hW hb
            replace d0 := hold hb d0
            replace d1 := hold hb d1
            clear hb
            have WF := Lib.hid (BR.out.trans ((below_tr FR.out hW).mono BR.out.size))
            have XF := Lib.hid (XR.out.below hW)
            have LF := Lib.hid (IW.out.below hW)
            clear hW g0 g1
            go_wp2_with fail
            go_roundg (ms.length - (k + 3))
            case rel => exact ⟨k + 3, L, by go_num, Nat.le_refl _, by omega, TE.out, WF.out, XF.out⟩
            case measure => have := HM.out; omega
          · have ne : ((E : Int) == 0) = false := beq_false_of_ne (by omega)
            clear hE0
            go_wp2_with fail
            with_reducible refine (M1.out _ (Below.refl _ _)).mono ?_
            rintro e w8 ⟨rfl, hb⟩
            have hW := hb
            have d0 := hold hb g0
            have d1 := hold hb g1
            clear hb
            have WF := Lib.hid (BR.out.trans ((below_tr FR.out hW).mono BR.out.size))
            have XF := Lib.hid (XR.out.below hW)
            have LF := Lib.hid (IW.out.below hW)
            clear hW g0 g1
            go_wp2_with fail
            go_roundg (ms.length - (k + 3))
            case rel => exact ⟨k + 3, l, by go_num, Nat.le_refl _, by omega, RR.out, WF.out, LF.out⟩
            case measure => have := HM.out; omega
        · have g1 : (ms.length : Int) ≤ (k : Int) + 2 := by omega
          go_wp2_with fail
          with_reducible refine (AW.out _).mono ?_
          rintro e w2 ⟨rfl, hb⟩
          have B2 := Lib.hid (B1.out.trans ((BR.out.mono B1.out.size)))
          have B3 := Lib.hid (below_tr B2.out hb)
          clear hb
          go_wp2_with fail
          go_ret
          exact ⟨rfl, B3.out⟩
end
end Go.Proofs.Ytmpakgabehplbaa
