/- Room in a live tree: the document's Share, walked. -/
import Derived.Test.YtffmmoligdoclaaRmC
namespace Go.Proofs.Ytffmmoligdoclaa
open Go.RowKit
set_option linter.unusedVariables false
set_option linter.unusedSimpArgs false
section
variable (w : World)
set_option maxHeartbeats 8000000 in
set_option maxRecDepth 20000 in
theorem rshare (l : List I12) (lv : Value) (h : IRow w l lv) (hr : RT l) (ns : List ByteArray) (nv : Value) (hn : SRow w ns nv) (hnl : ns.length ≤ 1000) : Calls Try.prog 17 #[lv, nv] w (Made (.agg #[.int .i64 (shareV l ns).c, .int .i64 (shareV l ns).m, .int .i64 (shareV l ns).p]) w) := by
  have hl : l.length ≤ 120 := hr.len
  have H := Lib.hid h
  have HN := Lib.hid hn
  have RU := Lib.hid (fun W (hW : Below w.heap.size w W) s => rup W l lv (h.below hW) (by omega) s)
  have RI := Lib.hid (fun W (hW : Below w.heap.size w W) s => rin W ns nv (hn.below hW) hnl s)
  obtain ⟨ao, cap, rfl⟩ := h.shape
  obtain ⟨no, nc, rfl⟩ := hn.shape
  have HR := Lib.hid hr
  clear h hr hn
  go_enter Try.func17, Try.ntmps17
  go_wp2_with fail
  have BX := Lib.hid (below_al (below_al (Below.refl w.heap.size w) (.cells #[.int .i64 0, .int .i64 0, .int .i64 0] 27)) (.cells #[.int .i64 0, .int .i64 0, .int .i64 0] 27))
  have T0 := Lib.hid (show CBlk ((w.alloc (.cells #[.int .i64 0, .int .i64 0, .int .i64 0] 27)).alloc (.cells #[.int .i64 0, .int .i64 0, .int .i64 0] 27)) w.heap.size z3 from (CBlk.new w z3).al _)
  have V0 := Lib.hid (show CBlk ((w.alloc (.cells #[.int .i64 0, .int .i64 0, .int .i64 0] 27)).alloc (.cells #[.int .i64 0, .int .i64 0, .int .i64 0] 27)) (w.heap.size + 1) z3 from heap_at (by simp))
  generalize hbr : w.heap.size = br at *
  generalize (w.alloc (.cells #[.int .i64 0, .int .i64 0, .int .i64 0] 27)).alloc (.cells #[.int .i64 0, .int .i64 0, .int .i64 0] 27) = w1 at *
  have HBR := Lib.hid hbr
  clear hbr
  go_loopg [6] l.length (fun m iv wr => ∃ k : Nat, iv = .int .i64 (k : Int) ∧ l.length - k ≤ m ∧ k ≤ l.length ∧ Below br w wr ∧ CBlk wr br z3 ∧ CBlk wr (br + 1) (shareTo l ns k))
  case atStart => exact ⟨0, rfl, Nat.le_refl _, Nat.zero_le _, BX.out, T0.out, V0.out⟩
  case round =>
    obtain ⟨k, rfl, hm, hk, hb, ht, hv⟩ := hrel
    have HM := Lib.hid hm
    have BR := Lib.hid hb
    have TR := Lib.hid ht
    have VR := Lib.hid hv
    clear hm hb ht hv
    have BW := Lib.hid (show Below w.heap.size w wr from by rw [HBR.out]; exact BR.out)
    by_cases hlt : k < l.length
    · obtain ⟨x, hx⟩ : ∃ x, l[k]? = some x := ⟨_, List.getElem?_eq_getElem hlt⟩
      have xm := List.mem_of_getElem? hx
      have HX := Lib.hid hx
      obtain ⟨_, _, e9, _, _, h9⟩ := H.out.below BW.out
      simp only [Value.slice.injEq, true_and] at e9
      obtain ⟨rfl, rfl⟩ := e9
      obtain ⟨gx, ox, rfl, hc⟩ := h9 k x hx
      have AT := Lib.hid hc
      have k0 := hc.c0
      have XAT := Lib.hid (show ∀ V, Below w.heap.size w V → I12At V gx (ox + k * 12) x from fun V hV => by
        obtain ⟨_, _, e8, _, _, h8⟩ := H.out.below hV
        simp only [Value.slice.injEq, true_and] at e8
        obtain ⟨rfl, rfl⟩ := e8
        obtain ⟨_, _, e10, h10⟩ := h8 k x HX.out
        cases e10
        exact h10)
      have y0 : (0 : Int) ≤ (k : Int) := by omega
      have y1 : (k : Int) < (l.length : Int) := by omega
      have ST := Lib.hid (shareTo_step (ns := ns) hx)
      have IN := Lib.hid (RI.out wr BR.out x.name)
      have SU := Lib.hid (share_up (ns := ns) HR.out.may k hk)
      have XS := Lib.hid (may_bounds (HR.out.may x xm))
      have UD := Lib.hid (show underB l ns x = (upI l x.name).tail.any fun t => inB ns t from rfl)
      have UPW := Lib.hid (RU.out wr BR.out x.name)
      have UH := Lib.hid (up_head HR.out xm)
      have UL := Lib.hid (show (upI l x.name).length ≤ 120 from by have := HR.out.up x.name; omega)
      obtain ⟨s0, hs0⟩ : ∃ s0, s0 = shareTo l ns k := ⟨_, rfl⟩
      rw [← hs0] at ST SU VR
      generalize underB l ns x = ud at *
      generalize upI l x.name = us at *
      generalize hib : inB ns x.name = ib at *
      clear hx xm hc h9 hs0 hib
      cases ib with
      | false =>
        have NS := Lib.hid (show shareTo l ns (k + 1) = s0 from by rw [ST.out]; rfl)
        go_wp2_with fail
        with_reducible refine IN.out.mono ?_
        rintro e w2 ⟨rfl, rfl⟩
        go_wp2_with fail
        go_roundg (l.length - (k + 1))
        case rel => exact ⟨k + 1, by go_num, Nat.le_refl _, hlt, BR.out, TR.out, by rw [NS.out]; exact VR.out⟩
        case measure => have := HM.out; omega
      | true =>
        go_wp2_with fail
        with_reducible refine IN.out.mono ?_
        rintro e w2 ⟨rfl, rfl⟩
        go_wp2_with fail
        with_reducible refine UPW.out.mono ?_
        rintro e w3 ⟨uv, rfl, hb3, ho3⟩
        have B3 := Lib.hid (show Below br w w3 from BR.out.trans (hb3.mono (by have := BW.out.size; have := HBR.out; omega)))
        have T3 := Lib.hid (TR.out.below hb3)
        have V3' := Lib.hid (VR.out.below hb3)
        have O3 := Lib.hid ho3
        have BW3 := Lib.hid (show Below w.heap.size w w3 from by rw [HBR.out]; exact B3.out)
        obtain ⟨uo, uc, rfl⟩ := ho3.shape
        have u120 : us.length ≤ 120 := UL.out
        have upos : 0 < us.length := by
          obtain ⟨r, hr⟩ := UH.out
          rw [hr]; simp
        clear hb3 ho3 k0
        go_wp2_with fail
        go_loopg [8, 9] us.length (fun m bv jv ws => ∃ j : Nat, jv = .int .i64 (j : Int) ∧ bv = .bool ((us.take j).tail.any fun t => inB ns t) ∧ us.length - j ≤ m ∧ 1 ≤ j ∧ j ≤ us.length ∧ w3 = ws)
        case atStart => exact ⟨1, rfl, by rw [show (us.take 1).tail = [] from by cases us <;> simp]; rfl, by omega, Nat.le_refl _, upos, rfl⟩
        case round =>
          obtain ⟨j, rfl, rfl, hm2, hj1, hj, rfl⟩ := hrel
          have HM2 := Lib.hid hm2
          clear hm2
          by_cases hjl : j < us.length
          · obtain ⟨t, ht⟩ : ∃ t, us[j]? = some t := ⟨_, List.getElem?_eq_getElem hjl⟩
            obtain ⟨ub, rfl, u0⟩ := O3.out.cell ht
            have IT := Lib.hid (RI.out _ B3.out t)
            have SJ := Lib.hid (show ((us.take (j + 1)).tail.any fun t => inB ns t) = (((us.take j).tail.any fun t => inB ns t) || inB ns t) from by
              rw [List.take_add_one, ht]
              have hne : us.take j ≠ [] := by
                intro e
                have := congrArg List.length e
                rw [List.length_take, List.length_nil] at this
                omega
              rw [List.tail_append_of_ne_nil hne, List.any_append]
              simp)
            have z0 : (0 : Int) ≤ (j : Int) := by omega
            have z1 : (j : Int) < (us.length : Int) := by omega
            generalize ((us.take j).tail.any fun t => inB ns t) = q0 at *
            generalize inB ns t = q1 at *
            clear ht
            cases q0 with
            | true =>
              have SJ2 := Lib.hid (show ((us.take (j + 1)).tail.any fun t => inB ns t) = true from by rw [SJ.out]; rfl)
              go_wp2_with fail
              go_roundg (us.length - (j + 1))
              case rel => exact ⟨j + 1, by go_num, by rw [SJ2.out], Nat.le_refl _, by omega, hjl, rfl⟩
              case measure => have := HM2.out; omega
            | false =>
              have SJ2 := Lib.hid (show ((us.take (j + 1)).tail.any fun t => inB ns t) = q1 from by rw [SJ.out]; rfl)
              go_wp2_with fail
              with_reducible refine IT.out.mono ?_
              rintro e w4 ⟨rfl, rfl⟩
              go_wp2_with fail
              go_roundg (us.length - (j + 1))
              case rel => exact ⟨j + 1, by go_num, by rw [SJ2.out], Nat.le_refl _, by omega, hjl, rfl⟩
              case measure => have := HM2.out; omega
          · obtain rfl : j = us.length := by omega
            rw [List.take_length, ← UD.out]
            cases ud with
            | true =>
              have NS := Lib.hid (show shareTo l ns (k + 1) = s0 from by rw [ST.out]; rfl)
              go_wp2_with fail
              go_roundg (l.length - (k + 1))
              case rel => exact ⟨k + 1, by go_num, Nat.le_refl _, hlt, B3.out, T3.out, by rw [NS.out]; exact V3'.out⟩
              case measure => have := HM.out; omega
            | false =>
              have NS := Lib.hid (show shareTo l ns (k + 1) = addV s0 x.sub from by rw [ST.out]; rfl)
              have AD := Lib.hid (fun W => radd2_any W s0 x.sub (by
                have := SU.out; have := XS.out
                unfold V3.Upto at *; unfold V3.I addV; simp only; omega))
              obtain ⟨s1, hs1⟩ : ∃ s1, s1 = addV s0 x.sub := ⟨_, rfl⟩
              simp only [← hs1] at AD NS
              obtain ⟨t0, t1, t2, tl⟩ := V3'.out.cells
              obtain ⟨k0, k1, k2, k3, k4, k5, k6, k7, k8, k9, k10, k11⟩ := XAT.out _ BW3.out
              clear hs1 SU XS
              go_wp2_with fail
              refine wp_region_mono_tail 7 (by kernel_rfl) (by kernel_rfl) (Nat.le_of_ble_eq_true (by kernel_rfl)) (by kernel_rfl) ?_
              simp only [List.map_cons, List.map_nil]
              simp only [List.take_succ_cons, List.take_zero, List.drop_succ_cons, List.drop_zero]
              repeat (first
                | (apply wpM_is
                   · (intro us W hW hg K hK
                      clear hg
                      have d0 := hold hW t0
                      have d1 := hold hW t1
                      have d2 := hold hW t2
                      have d3 := hold hW k8
                      have d4 := hold hW k9
                      have d5 := hold hW k10
                      simp only [fillA]
                      go_simp
                      first
                      | exact hK _ (Below.refl _ _)
                      | ((with_reducible refine (AD.out _).mono ?_); rintro e w' ⟨rfl, hb⟩; exact hK _ hb))
                   simp only [setD, List.set_cons_zero, List.set_cons_succ]))
              intro us' W hW hg
              simp only [fillA]
              clear hg
              have B4 := Lib.hid (show Below br w W from B3.out.trans (hW.mono (by have := BW3.out.size; have := HBR.out; omega)))
              have T4 := Lib.hid (T3.out.below hW)
              have V4 := Lib.hid (V3'.out.below hW)
              obtain ⟨e0, e1, e2, el⟩ := V4.out.cells
              have f0 := V4.out.free 0
              have f1 := V4.out.free 1
              have f2 := V4.out.free 2
              clear hW t0 t1 t2 tl k0 k1 k2 k3 k4 k5 k6 k7 k8 k9 k10 k11
              go_wp2_with fail
              go_roundg (l.length - (k + 1))
              case rel => exact ⟨k + 1, by go_num, Nat.le_refl _, hlt, below_set3 B4.out (by omega) _ _ _, T4.out.far (by omega) _ _ _, by rw [NS.out]; exact V4.out.set s1⟩
              case measure => have := HM.out; omega
    · obtain rfl : k = l.length := by omega
      obtain ⟨e0, e1, e2, el⟩ := TR.out.cells
      have f0 := TR.out.free 0
      have f1 := TR.out.free 1
      have f2 := TR.out.free 2
      obtain ⟨rv, hrv⟩ : ∃ rv, rv = shareV l ns := ⟨_, rfl⟩
      have VS := Lib.hid (show CBlk wr (br + 1) rv from by rw [hrv]; exact VR.out)
      have HRV := Lib.hid hrv
      obtain ⟨g0, g1, g2, gl⟩ := VS.out.cells
      clear hrv VR
      go_wp2_with fail
      have TS := TR.out.set rv
      have BF := Lib.hid (below_set3 BR.out (Nat.le_refl br) (.int .i64 rv.c) (.int .i64 rv.m) (.int .i64 rv.p))
      generalize ((wr.setCell ⟨br, 0, none⟩ (.int .i64 rv.c)).setCell ⟨br, 1, none⟩ (.int .i64 rv.m)).setCell ⟨br, 2, none⟩ (.int .i64 rv.p) = wf at *
      obtain ⟨c0, c1, c2, -⟩ := TS.cells
      exact bodyPost_ret (v := .agg #[.int .i64 rv.c, .int .i64 rv.m, .int .i64 rv.p]) (by simp [results, Try.results17, go_sem, c0, c1, c2]) rfl ⟨by rw [← HRV.out], by rw [HBR.out]; exact BF.out⟩
end
end Go.Proofs.Ytffmmoligdoclaa
