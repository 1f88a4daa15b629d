/- Room in a live tree: the document's Tight, walked. -/
import Derived.Test.YtffmmoligdoclaaRmB
namespace Go.Proofs.Ytffmmoligdoclaa
open Go.RowKit
set_option linter.unusedVariables false
set_option linter.unusedSimpArgs false
section
variable (w : World)
set_option maxHeartbeats 8000000 in
set_option maxRecDepth 20000 in
theorem rtight (l : List I12) (lv : Value) (h : IRow w l lv) (hr : RT l) (s : ByteArray) : Calls Try.prog 15 #[lv, .string s] w (MadeStrs (tightL l s) w) := by
  have hl : l.length ≤ 120 := hr.len
  have H := Lib.hid h
  have RU := Lib.hid (fun W (hW : Below w.heap.size w W) => rup W l lv (h.below hW) (by omega) s)
  have RO := Lib.hid (fun W (hW : Below w.heap.size w W) => rroom W l lv (h.below hW) hr s)
  have RF := Lib.hid (fun W (hW : Below w.heap.size w W) t => rfind W l lv (h.below hW) t)
  obtain ⟨i0, hi0, hz0, hz1, hz2⟩ := info_partsT info_str
  obtain ⟨ao, cap, rfl⟩ := h.shape
  have UF := Lib.hid (fun t (ht : t ∈ upI l s) => up_found ht)
  have TL := Lib.hid (tightTo_all l s)
  have UL := Lib.hid (show (upI l s).length ≤ 120 from by have := hr.up s; omega)
  have HR := Lib.hid hr
  clear h hr
  generalize okU (upI l s) = oku at *
  generalize roomV l s = rv at *
  generalize tightL l s = tl at *
  generalize upI l s = us at *
  go_enter Try.func15, Try.ntmps15
  go_wp2_with fail
  with_reducible refine (RO.out _ (Below.refl _ _)).mono ?_
  rintro e w1 ⟨rfl, hb1⟩
  have B1 := Lib.hid hb1
  clear hb1
  have BV := Lib.hid (below_al B1.out (.cells #[.int .i64 rv.c, .int .i64 rv.m, .int .i64 rv.p] 27))
  have V0 := Lib.hid (CBlk.new w1 rv)
  go_wp2_with fail
  with_reducible refine (RU.out _ BV.out).mono ?_
  rintro e w2 ⟨uv, rfl, hb2, ho2⟩
  have B2 := Lib.hid (below_tr BV.out hb2)
  have V2 := Lib.hid (V0.out.below hb2)
  have O2 := Lib.hid ho2
  obtain ⟨uo, uc, rfl⟩ := ho2.shape
  clear hb2 ho2
  go_wp2_with fail
  generalize w1.heap.size = bv at *
  clear BV V0 B1
  go_loopg [8, 9] us.length (fun m ov iv wr => ∃ kk : Nat, iv = .int .i64 (kk : Int) ∧ us.length - kk ≤ m ∧ kk ≤ us.length ∧ Below w2.heap.size w2 wr ∧ StrsO wr w2.heap.size ov (tightTo l rv us kk))
  case atStart => exact ⟨0, rfl, Nat.le_refl _, Nat.zero_le _, Below.refl _ _, (own_none _ _ _ _ : World.ownsRow _ _ _ _ _ _ _)⟩
  case round =>
    obtain ⟨kk, rfl, hm, hk, hb, ho⟩ := hrel
    have HM := Lib.hid hm
    have BR := Lib.hid hb
    have OO := Lib.hid ho
    obtain ⟨oo, oc, rfl⟩ := ho.shape
    clear hm hb ho
    have u120 : us.length ≤ 120 := UL.out
    have BW := Lib.hid (below_tr B2.out BR.out)
    by_cases hlt : kk < us.length
    · obtain ⟨t2, ht2⟩ : ∃ t2, us[kk]? = some t2 := ⟨_, List.getElem?_eq_getElem hlt⟩
      obtain ⟨k2, x2, hk2, hx2, hlk2⟩ := UF.out t2 (List.mem_of_getElem? ht2)
      obtain ⟨ub, rfl, u0'⟩ := O2.out.cell ht2
      have u0 := hold BR.out u0'
      have kl2 : k2 < l.length := (List.getElem?_eq_some_iff.1 hx2).1
      have FE : findI l t2 = (k2 : Int) := by unfold findI; rw [hk2]
      have RF1 := Lib.hid (RF.out wr BW.out t2)
      rw [FE] at RF1
      obtain ⟨_, _, e9, _, _, h9⟩ := H.out.below BW.out
      simp only [Value.slice.injEq, true_and] at e9
      obtain ⟨rfl, rfl⟩ := e9
      obtain ⟨gx, ox, rfl, hc⟩ := h9 k2 x2 hx2
      obtain ⟨k0, k1, k2', k3, k4, k5, k6, k7, k8, k9, k10, k11⟩ := hc
      have xm := List.mem_of_getElem? hx2
      have FX := free_fit HR.out xm
      have RFR := Lib.hid (fun W => rfree W x2 (by unfold FitV at FX; unfold V3.I; omega))
      have TS := Lib.hid (show tightTo l rv us (kk + 1) = if eq1 (freeV x2) rv = true then tightTo l rv us kk ++ [t2] else tightTo l rv us kk from by rw [tightTo_step ht2, freeA_at hlk2])
      have TN := Lib.hid (tightTo_len l rv us kk)
      unfold I12.val I12.cells at RFR
      have z0 : (0 : Int) ≤ (k2 : Int) := by omega
      have z1 : (k2 : Int) < (l.length : Int) := by omega
      have z2 : (0 : Int) ≤ (kk : Int) := by omega
      have z3' : (kk : Int) < (us.length : Int) := by omega
      generalize freeV x2 = f2 at *
      generalize tightTo l rv us kk = out at *
      clear hk2 hx2 hlk2 FE h9 xm ht2 FX u0'
      go_wp2_with fail
      with_reducible refine RF1.out.mono ?_
      rintro e w5 ⟨rfl, rfl⟩
      go_wp2_with fail
      with_reducible refine (RFR.out _).mono ?_
      rintro e w6 ⟨rfl, hb6⟩
      have B6 := Lib.hid (below_tr BR.out hb6)
      have O6 := Lib.hid (OO.out.below hb6)
      have V6 := Lib.hid (V2.out.below B6.out)
      have B7 := Lib.hid (below_al B6.out (.cells #[.int .i64 f2.c, .int .i64 f2.m, .int .i64 f2.p] 27))
      have O7 := Lib.hid (O6.out.below (below_al (Below.refl w6.heap.size w6) (.cells #[.int .i64 f2.c, .int .i64 f2.m, .int .i64 f2.p] 27)))
      have V7 := Lib.hid (V6.out.al (.cells #[.int .i64 f2.c, .int .i64 f2.m, .int .i64 f2.p] 27))
      have N7 := Lib.hid (CBlk.new w6 f2)
      have u7 := hold (below_al (below_tr (Below.refl wr.heap.size wr) hb6) (.cells #[.int .i64 f2.c, .int .i64 f2.m, .int .i64 f2.p] 27)) u0
      obtain ⟨e0, e1, e2, el⟩ := V7.out.cells
      obtain ⟨g0, g1, g2, gl⟩ := N7.out.cells
      clear hb6 k0 k1 k2' k3 k4 k5 k6 k7 k8 k9 k10 k11 u0
      go_upto_region 8 with fail
      generalize w6.heap.size = bf at *
      generalize w6.alloc (.cells #[.int .i64 f2.c, .int .i64 f2.m, .int .i64 f2.p] 27) = w7 at *
      obtain ⟨hq, hhq⟩ : ∃ hq, hq = eq1 f2 rv := ⟨_, rfl⟩
      replace hhq := Lib.hid hhq
      rw [← hhq.out] at TS
      go_cut [54] (fun s wx => s = .bool hq ∧ wx = w7)
      case first =>
        by_cases q1 : f2.c = rv.c
        · have R := Lib.hid (show hq = true from by rw [hhq.out]; unfold eq1; rw [decide_eq_true q1]; rfl)
          rw [q1] at g0
          clear q1
          go_wp2_with fail
          go_meet
          case rel => exact ⟨by rw [R.out], rfl⟩
        · have n1 : (f2.c == rv.c) = false := beq_false_of_ne q1
          by_cases q2 : f2.m = rv.m
          · have R := Lib.hid (show hq = true from by rw [hhq.out]; unfold eq1; rw [decide_eq_true q2]; simp)
            rw [q2] at g1
            clear q1 q2
            go_wp2_with fail
            go_meet
            case rel => exact ⟨by rw [R.out], rfl⟩
          · have n2 : (f2.m == rv.m) = false := beq_false_of_ne q2
            have R := Lib.hid (show hq = decide (f2.p = rv.p) from by rw [hhq.out]; unfold eq1; rw [decide_eq_false q1, decide_eq_false q2]; rfl)
            by_cases q3 : f2.p = rv.p
            · have R2 := Lib.hid (show hq = true from by rw [R.out]; exact decide_eq_true q3)
              rw [q3] at g2
              clear q1 q2 q3
              go_wp2_with fail
              go_meet
              case rel => exact ⟨by rw [R2.out], rfl⟩
            · have n3 : (f2.p == rv.p) = false := beq_false_of_ne q3
              have R2 := Lib.hid (show hq = false from by rw [R.out]; exact decide_eq_false q3)
              clear q1 q2 q3
              go_wp2_with fail
              go_meet
              case rel => exact ⟨by rw [R2.out], rfl⟩
      case rest =>
      obtain ⟨rfl, rfl⟩ := hcut
      generalize wc = w7 at *
      clear e0 e1 e2 el g0 g1 g2 gl hhq
      cases hq with
      | false =>
        have NS := Lib.hid (show tightTo l rv us (kk + 1) = out from TS.out)
        go_wp2_with fail
        go_roundg (us.length - (kk + 1))
        case rel => exact ⟨kk + 1, by go_num, Nat.le_refl _, hlt, B7.out, by rw [NS.out]; exact O7.out⟩
        case measure => have := HM.out; omega
      | true =>
        have NS := Lib.hid (show tightTo l rv us (kk + 1) = out ++ [t2] from TS.out)
        have BA := Lib.hid (below_al (Below.refl w7.heap.size w7) (.cells #[.string t2] 9))
        have O1 := Lib.hid (show (w7.alloc (.cells #[.string t2] 9)).ownsRow w2.heap.size 9 1 (.slice oo out.length oc) out.length (strC out) from World.ownsRow.alloc O7.out _)
        have B8 := Lib.hid (below_tr B7.out BA.out)
        have LOW := Lib.hid (show ∀ q, (Value.slice oo out.length oc).ownBlock = some q → w2.heap.size ≤ q from fun q hq => (World.ownsRow.lt O7.out q hq).1)
        go_wp2_with (first
          | (at_builtin; refine wpList_append_lies _ rfl _ _ 23 rfl w2.heap.size 9 i0 (.string ⟨#[]⟩) 1 16 Try.underlying23 hi0 hz0 hz1 hz2 rfl (by decide) (.slice oo out.length oc) out.length (strC out) rfl O1.out ⟨w7.heap.size, 0, none⟩ 1 1 [.string t2] rfl rfl (news_str w7 t2) (by simp [Value.oneCell']) (by decide) (by have := TN.out; unfold maxLen; omega) (by have := TN.out; omega) B8.out.size _ rfl ?_; intro gg cc w8 hown8 hgrow8 hat8 hlt8))
        have B9 := Lib.hid (below_grown' B8.out hgrow8 LOW.out)
        have O9 := Lib.hid (show StrsO w8 w2.heap.size (.slice (some ⟨gg, 0, none⟩) (out.length + 1) cc) (tightTo l rv us (kk + 1)) from by
          rw [NS.out]
          unfold StrsO
          rw [List.length_append, strC_app]; exact hown8)
        clear hown8 hgrow8 hat8 hlt8
        go_wp2_with fail
        go_roundg (us.length - (kk + 1))
        case rel => exact ⟨kk + 1, by go_num, Nat.le_refl _, hlt, B9.out, O9.out⟩
        case measure => have := HM.out; omega
    · obtain rfl : kk = us.length := by omega
      go_wp2_with fail
      go_ret
      exact ⟨_, rfl, BW.out, own_lower0 (by rw [← TL.out]; exact OO.out) (by have := B2.out.size; exact this)⟩
end
end Go.Proofs.Ytffmmoligdoclaa
