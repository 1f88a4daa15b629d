/- Room in a live tree: the document's, walked. -/
import Derived.Test.YtffmmoligdoclaaRmA
import Derived.Test.YtffmmoligdoclaaTrPu
import Derived.Test.YtffmmoligdoclaaMono
namespace Go.Proofs.Ytffmmoligdoclaa
open Go.RowKit
set_option linter.unusedVariables false
set_option linter.unusedSimpArgs false
/-- A row of texts, as read. -/
def SRow (w : World) (ss : List ByteArray) (v : Value) : Prop := ∃ ao cap, v = .slice ao ss.length cap ∧ ∀ (i : Nat) (s : ByteArray), ss[i]? = some s → ∃ g o, ao = some ⟨g, o, none⟩ ∧ w.cell? ⟨g, o + i, none⟩ = some (.string s)
theorem SRow.below {w w' : World} {ss : List ByteArray} {v : Value} (h : SRow w ss v) (hb : Below w.heap.size w w') : SRow w' ss v := by
  obtain ⟨ao, cap, e, hc⟩ := h
  refine ⟨ao, cap, e, fun i s hs => ?_⟩
  obtain ⟨g, o, e2, h3⟩ := hc i s hs
  exact ⟨g, o, e2, hold hb h3⟩
theorem SRow.shape {w : World} {ss : List ByteArray} {v : Value} (h : SRow w ss v) : ∃ ao cap, v = .slice ao ss.length cap := by obtain ⟨ao, cap, e, -⟩ := h; exact ⟨ao, cap, e⟩
theorem srow_of {w : World} {B : Nat} {v : Value} {xs : List ByteArray} (h : StrsO w B v xs) : SRow w xs v := by
  obtain ⟨ao, cap, rfl⟩ := h.shape
  refine ⟨ao, cap, rfl, fun i s hs => ?_⟩
  obtain ⟨b, e, hc⟩ := h.cell hs
  exact ⟨b, 0, e, by rw [Nat.zero_add]; exact hc⟩
theorem SRow.nil (w : World) : SRow w [] (.slice none 0 0) := ⟨none, 0, rfl, fun i s h => by simp at h⟩
section
variable (w : World)
set_option maxRecDepth 20000 in
theorem rfree (x : I12) (h : (freeV x).I) : Calls Try.prog 31 #[x.val] w (Made (.agg #[.int .i64 (freeV x).c, .int .i64 (freeV x).m, .int .i64 (freeV x).p]) w) := by
  have SB := Lib.hid (fun W => rsub_any W x.lim x.sub h)
  have BX := Lib.hid (below_al (below_al (Below.refl w.heap.size w) (.cells #[.string x.name, .string x.parent, .int .i64 x.lim.c, .int .i64 x.lim.m, .int .i64 x.lim.p, .int .i64 x.own.c, .int .i64 x.own.m, .int .i64 x.own.p, .int .i64 x.sub.c, .int .i64 x.sub.m, .int .i64 x.sub.p, .int .i64 x.ver] 40)) (.cells #[.int .i64 0, .int .i64 0, .int .i64 0] 27))
  have T0 := Lib.hid (show CBlk ((w.alloc (.cells #[.string x.name, .string x.parent, .int .i64 x.lim.c, .int .i64 x.lim.m, .int .i64 x.lim.p, .int .i64 x.own.c, .int .i64 x.own.m, .int .i64 x.own.p, .int .i64 x.sub.c, .int .i64 x.sub.m, .int .i64 x.sub.p, .int .i64 x.ver] 40)).alloc (.cells #[.int .i64 0, .int .i64 0, .int .i64 0] 27)) (w.heap.size + 1) z3 from heap_at (by simp))
  unfold I12.val I12.cells
  unfold freeV at *
  generalize hv : subV x.lim x.sub = v at *
  clear h hv
  go_enter Try.func31, Try.ntmps31
  go_wp2_with fail
  with_reducible refine (SB.out _).mono ?_
  rintro e w1 ⟨rfl, hb⟩
  have B1 := Lib.hid (below_tr BX.out hb)
  have T1 := Lib.hid (T0.out.below hb)
  obtain ⟨e0, e1, e2, el⟩ := T1.out.cells
  have f0 := T1.out.free 0
  have f1 := T1.out.free 1
  have f2 := T1.out.free 2
  clear hb
  go_wp2_with fail
  have TS := T1.out.set v
  have BF := Lib.hid (below_set3 B1.out (show w.heap.size ≤ w.heap.size + 1 by omega) (.int .i64 v.c) (.int .i64 v.m) (.int .i64 v.p))
  generalize ((w1.setCell ⟨w.heap.size + 1, 0, none⟩ (.int .i64 v.c)).setCell ⟨w.heap.size + 1, 1, none⟩ (.int .i64 v.m)).setCell ⟨w.heap.size + 1, 2, none⟩ (.int .i64 v.p) = wf at *
  obtain ⟨c0, c1, c2, -⟩ := TS.cells
  exact bodyPost_ret (v := .agg #[.int .i64 v.c, .int .i64 v.m, .int .i64 v.p]) (by simp [results, Try.results31, go_sem, c0, c1, c2]) rfl ⟨rfl, BF.out⟩
set_option maxHeartbeats 4000000 in
set_option maxRecDepth 20000 in
theorem rin (ss : List ByteArray) (sv : Value) (h : SRow w ss sv) (hl : ss.length ≤ 1000) (s : ByteArray) : Calls Try.prog 36 #[sv, .string s] w fun e w' => e = .returned (.bool (inB ss s)) ∧ w = w' := by
  obtain ⟨ao, cap, rfl, hat⟩ := h
  have HAT := Lib.hid hat
  clear hat
  go_enter Try.func36, Try.ntmps36
  go_wp2_with fail
  go_loopg [5] ss.length (fun m iv wr => ∃ k : Nat, iv = .int .i64 k ∧ ss.length - k ≤ m ∧ k ≤ ss.length ∧ w = wr ∧ Hid (∀ j y, j < k → ss[j]? = some y → y ≠ s))
  case atStart => exact ⟨0, rfl, Nat.le_refl _, Nat.zero_le _, rfl, Lib.hid (fun j y hj => by omega)⟩
  case round =>
    obtain ⟨k, rfl, hm, hk, rfl, NB⟩ := hrel
    have HM := Lib.hid hm
    clear hm
    by_cases hlt : k < ss.length
    · obtain ⟨u, hu⟩ : ∃ u, ss[k]? = some u := ⟨_, List.getElem?_eq_getElem hlt⟩
      have HU := Lib.hid hu
      obtain ⟨g, o, rfl, c0⟩ := HAT.out k u hu
      clear hu
      by_cases hn : u = s
      · have e := tstr_is hn
        have R := Lib.hid (show inB ss s = true by rw [inB_iff, ← hn]; exact List.mem_of_getElem? HU.out)
        clear hn
        go_wp2_with fail
        go_ret
        exact ⟨by rw [R.out]; rfl, rfl⟩
      · have e := tstr_ne hn
        have NX := Lib.hid (show ∀ j y, j < k + 1 → ss[j]? = some y → y ≠ s from fun j y hj hy => by
          by_cases ej : j = k
          · subst ej
            obtain rfl : u = y := Option.some.inj (HU.out.symm.trans hy)
            exact hn
          · exact NB.out j y (by omega) hy)
        clear hn
        go_wp2_with fail
        go_roundg (ss.length - (k + 1))
        case rel => exact ⟨k + 1, by go_num, Nat.le_refl _, hlt, rfl, NX⟩
        case measure => have := HM.out; omega
    · obtain rfl : k = ss.length := by omega
      have R := Lib.hid (show inB ss s = false from by
        cases h : inB ss s with
        | false => rfl
        | true =>
          obtain ⟨j, hj, hje⟩ := List.mem_iff_getElem.1 (inB_iff.1 h)
          exact absurd hje (NB.out j _ hj (List.getElem?_eq_getElem hj)))
      go_wp2_with fail
      go_ret
      exact ⟨by rw [R.out]; rfl, rfl⟩
set_option maxHeartbeats 4000000 in
set_option maxRecDepth 20000 in
theorem rroom (l : List I12) (lv : Value) (h : IRow w l lv) (hr : RT l) (s : ByteArray) : Calls Try.prog 12 #[lv, .string s] w (Made (.tuple #[.agg #[.int .i64 (roomV l s).c, .int .i64 (roomV l s).m, .int .i64 (roomV l s).p], .bool (okU (upI l s))]) w) := by
  have hl : l.length ≤ 120 := hr.len
  have H := Lib.hid h
  have RU := Lib.hid (fun W (hW : Below w.heap.size w W) => rup W l lv (h.below hW) (by omega) s)
  have RF := Lib.hid (fun W (hW : Below w.heap.size w W) t => rfind W l lv (h.below hW) t)
  obtain ⟨ao, cap, rfl⟩ := h.shape
  have BX := Lib.hid (below_al (Below.refl w.heap.size w) (.cells #[.int .i64 0, .int .i64 0, .int .i64 0] 27))
  have T0 := Lib.hid (CBlk.new w z3)
  have UF := Lib.hid (fun t (ht : t ∈ upI l s) => up_found ht)
  have RV := Lib.hid (show roomV l s = roomTo l (upI l s) (upI l s).length from by rw [roomTo_all]; rfl)
  have UL := Lib.hid (show (upI l s).length ≤ 120 from by have := hr.up s; omega)
  have HR := Lib.hid hr
  clear h hr
  generalize roomV l s = rv at *
  generalize upI l s = us at *
  go_enter Try.func12, Try.ntmps12
  go_wp2_with fail
  with_reducible refine (RU.out _ BX.out).mono ?_
  rintro e w1 ⟨uv, rfl, hb1, ho1⟩
  have B1 := Lib.hid (below_tr BX.out hb1)
  have T1 := Lib.hid (show CBlk w1 w.heap.size z3 from CBlk.below T0.out hb1)
  have O1 := Lib.hid ho1
  obtain ⟨uo, uc, rfl⟩ := ho1.shape
  clear hb1 ho1
  obtain ⟨e0, e1, e2, el⟩ := T1.out.cells
  have f0 := T1.out.free 0
  have f1 := T1.out.free 1
  have f2 := T1.out.free 2
  cases us with
  | nil =>
    have R0 := Lib.hid (show rv = z3 from RV.out)
    go_wp2_with fail
    have TS := T1.out.set z3
    have BF := Lib.hid (below_set3 B1.out (Nat.le_refl w.heap.size) (.int .i64 0) (.int .i64 0) (.int .i64 0))
    simp only [z3] at TS
    generalize ((w1.setCell ⟨w.heap.size, 0, none⟩ (.int .i64 0)).setCell ⟨w.heap.size, 1, none⟩ (.int .i64 0)).setCell ⟨w.heap.size, 2, none⟩ (.int .i64 0) = wf at *
    obtain ⟨c0, c1, c2, -⟩ := TS.cells
    rw [R0.out]
    exact bodyPost_ret (v := .tuple #[.agg #[.int .i64 0, .int .i64 0, .int .i64 0], .bool false]) (by simp [results, Try.results12, go_sem, c0, c1, c2]) rfl ⟨rfl, BF.out⟩
  | cons t r =>
    have OKT := Lib.hid (show okU (t :: r) = true from rfl)
    have ne : (((t :: r).length : Int) == 0) = false := beq_false_of_ne (by simp; omega)
    have up0 : 0 < (t :: r).length := by simp
    have h0 : (t :: r)[0]? = some t := rfl
    have tm : t ∈ t :: r := List.mem_cons_self
    generalize t :: r = us at *
    obtain ⟨k, x, hk, hx, hlk⟩ := UF.out t tm
    obtain ⟨ub, rfl, u0⟩ := O1.out.cell h0
    have upz : (0 : Int) < (us.length : Int) := by omega
    have kl : k < l.length := (List.getElem?_eq_some_iff.1 hx).1
    have FE : findI l t = (k : Int) := by unfold findI; rw [hk]
    have RF1 := Lib.hid (RF.out w1 B1.out t)
    rw [FE] at RF1
    obtain ⟨_, _, e9, _, _, h9⟩ := H.out.below B1.out
    simp only [Value.slice.injEq, true_and] at e9
    obtain ⟨rfl, rfl⟩ := e9
    obtain ⟨gx, ox, rfl, hc⟩ := h9 k x hx
    obtain ⟨k0, k1, k2, k3, k4, k5, k6, k7, k8, k9, k10, k11⟩ := hc
    have xm := List.mem_of_getElem? hx
    have FX := free_fit HR.out xm
    have RFR := Lib.hid (fun W => rfree W x (by unfold FitV at FX; unfold V3.I; omega))
    have RT1 := Lib.hid (show roomTo l us 1 = freeV x from by rw [roomTo_one h0, freeA_at hlk])
    unfold I12.val I12.cells at RFR
    have y0 : (0 : Int) ≤ (k : Int) := by omega
    have y1 : (k : Int) < (l.length : Int) := by omega
    generalize freeV x = f at *
    clear hk hx hlk tm FE h9 xm
    go_wp2_with fail
    with_reducible refine RF1.out.mono ?_
    rintro e w2 ⟨rfl, rfl⟩
    go_wp2_with fail
    with_reducible refine (RFR.out _).mono ?_
    rintro e w3 ⟨rfl, hb3⟩
    have B3 := Lib.hid (below_tr B1.out hb3)
    have T3 := Lib.hid (T1.out.below hb3)
    have O3 := Lib.hid (O1.out.below hb3)
    clear hb3 k0 k1 k2 k3 k4 k5 k6 k7 k8 k9 k10 k11 u0 e0 e1 e2 el f0 f1 f2
    have N4 := Lib.hid (CBlk.new w3 f)
    have B4 := Lib.hid (below_al B3.out (.cells #[.int .i64 f.c, .int .i64 f.m, .int .i64 f.p] 27))
    have T4 := Lib.hid (T3.out.al (.cells #[.int .i64 f.c, .int .i64 f.m, .int .i64 f.p] 27))
    have O4 := Lib.hid (O3.out.below (below_al (Below.refl w3.heap.size w3) (.cells #[.int .i64 f.c, .int .i64 f.m, .int .i64 f.p] 27)))
    have NE3 := Lib.hid (show w.heap.size ≠ w3.heap.size from by have := T3.out.lt; omega)
    have GE3 := Lib.hid B3.out.size
    have NEU := Lib.hid (show ub ≠ w3.heap.size from by have := (World.ownsRow.lt O3.out ub rfl).2; omega)
    go_wp2_with fail
    generalize w3.alloc (.cells #[.int .i64 f.c, .int .i64 f.m, .int .i64 f.p] 27) = w4 at *
    generalize w3.heap.size = bv at *
    have N5 := Lib.hid (show CBlk w4 bv (roomTo l us 1) from by rw [RT1.out]; exact N4.out)
    clear FX RFR RT1 RF1
    go_loopg [8] us.length (fun m iv wr => ∃ kk : Nat, iv = .int .i64 (kk : Int) ∧ us.length - kk ≤ m ∧ 1 ≤ kk ∧ kk ≤ us.length ∧ Below w.heap.size w wr ∧ CBlk wr w.heap.size z3 ∧ CBlk wr bv (roomTo l us kk) ∧ StrsO wr (w.alloc (.cells #[.int .i64 0, .int .i64 0, .int .i64 0] 27)).heap.size (.slice (some ⟨ub, 0, none⟩) us.length uc) us)
    case atStart => exact ⟨1, rfl, by omega, Nat.le_refl _, up0, B4.out, T4.out, N5.out, O4.out⟩
    case round =>
      obtain ⟨kk, rfl, hm, hk1, hk, hb, ht, hv, ho⟩ := hrel
      have HM := Lib.hid hm
      have BR := Lib.hid hb
      have TR := Lib.hid ht
      have VR := Lib.hid hv
      have OR := Lib.hid ho
      clear hm hb ht hv ho
      have u120 : us.length ≤ 120 := UL.out
      by_cases hlt : kk < us.length
      · obtain ⟨t2, ht2⟩ : ∃ t2, us[kk]? = some t2 := ⟨_, List.getElem?_eq_getElem hlt⟩
        obtain ⟨k2, x2, hk2, hx2, hlk2⟩ := UF.out t2 (List.mem_of_getElem? ht2)
        obtain ⟨_, eb, u0⟩ := OR.out.cell ht2
        cases eb
        have kl2 : k2 < l.length := (List.getElem?_eq_some_iff.1 hx2).1
        have FE : findI l t2 = (k2 : Int) := by unfold findI; rw [hk2]
        have RF1 := Lib.hid (RF.out wr BR.out t2)
        rw [FE] at RF1
        obtain ⟨_, _, e9, _, _, h9⟩ := H.out.below BR.out
        simp only [Value.slice.injEq, true_and] at e9
        obtain ⟨rfl, rfl⟩ := e9
        obtain ⟨_, _, e10, hc⟩ := h9 k2 x2 hx2
        cases e10
        obtain ⟨k0, k1, k2', k3, k4, k5, k6, k7, k8, k9, k10, k11⟩ := hc
        have xm := List.mem_of_getElem? hx2
        have FX := free_fit HR.out xm
        have RFR := Lib.hid (fun W => rfree W x2 (by unfold FitV at FX; unfold V3.I; omega))
        have RS := Lib.hid (show roomTo l us (kk + 1) = minV (roomTo l us kk) (freeV x2) from by rw [roomTo_step ht2 (by omega), freeA_at hlk2])
        unfold I12.val I12.cells at RFR
        have z0 : (0 : Int) ≤ (k2 : Int) := by omega
        have z1 : (k2 : Int) < (l.length : Int) := by omega
        have z2 : (0 : Int) ≤ (kk : Int) := by omega
        have z3' : (kk : Int) < (us.length : Int) := by omega
        generalize freeV x2 = f2 at *
        obtain ⟨v2, hv2⟩ : ∃ v2, v2 = roomTo l us kk := ⟨_, rfl⟩
        rw [← hv2] at RS VR
        obtain ⟨M, hM⟩ : ∃ M, M = minV v2 f2 := ⟨_, rfl⟩
        rw [← hM] at RS
        have ma0 : (if f2.c < v2.c then f2.c else v2.c) = M.c := by rw [hM]; unfold minV; simp only; omega
        have ma1 : (if f2.m < v2.m then f2.m else v2.m) = M.m := by rw [hM]; unfold minV; simp only; omega
        have ma2 : (if f2.p < v2.p then f2.p else v2.p) = M.p := by rw [hM]; unfold minV; simp only; omega
        have mb0 : (if v2.c ≤ f2.c then v2.c else f2.c) = M.c := by rw [hM]; unfold minV; simp only; omega
        have mb1 : (if v2.m ≤ f2.m then v2.m else f2.m) = M.m := by rw [hM]; unfold minV; simp only; omega
        have mb2 : (if v2.p ≤ f2.p then v2.p else f2.p) = M.p := by rw [hM]; unfold minV; simp only; omega
        have mc0 : min v2.c f2.c = M.c := by rw [hM]; rfl
        have mc1 : min v2.m f2.m = M.m := by rw [hM]; rfl
        have mc2 : min v2.p f2.p = M.p := by rw [hM]; rfl
        clear hM
        clear hk2 hx2 hlk2 FE h9 xm hv2 ht2 FX
        go_wp2_with fail
        with_reducible refine RF1.out.mono ?_
        rintro e w5 ⟨rfl, rfl⟩
        go_wp2_with fail
        with_reducible refine (RFR.out _).mono ?_
        rintro e w6 ⟨rfl, hb6⟩
        have B6 := Lib.hid (below_tr BR.out hb6)
        have T6 := Lib.hid (TR.out.below hb6)
        have V6 := Lib.hid (VR.out.below hb6)
        have O6 := Lib.hid (OR.out.below hb6)
        have V7 := Lib.hid (V6.out.al (.cells #[.int .i64 f2.c, .int .i64 f2.m, .int .i64 f2.p] 27))
        have B7 := Lib.hid (below_al B6.out (.cells #[.int .i64 f2.c, .int .i64 f2.m, .int .i64 f2.p] 27))
        have T7 := Lib.hid (T6.out.al (.cells #[.int .i64 f2.c, .int .i64 f2.m, .int .i64 f2.p] 27))
        have O7 := Lib.hid (O6.out.below (below_al (Below.refl w6.heap.size w6) (.cells #[.int .i64 f2.c, .int .i64 f2.m, .int .i64 f2.p] 27)))
        obtain ⟨e0, e1, e2, el⟩ := V7.out.cells
        have f0 := V7.out.free 0
        have f1 := V7.out.free 1
        have f2' := V7.out.free 2
        have N7 := Lib.hid (CBlk.new w6 f2)
        obtain ⟨g0, g1, g2, gl⟩ := N7.out.cells
        clear hb6 k0 k1 k2' k3 k4 k5 k6 k7 k8 k9 k10 k11 u0
        go_wp2_with fail
        go_roundg (us.length - (kk + 1))
        case rel =>
          refine ⟨kk + 1, by go_num, Nat.le_refl _, by omega, hlt, below_set3 B7.out GE3.out _ _ _, T7.out.far NE3.out _ _ _, ?_, O7.out.far3 ?_ 0 1 2 _ _ _⟩
          · rw [RS.out]; exact V7.out.set M
          · intro e
            cases e
            exact NEU.out rfl
        case measure => have := HM.out; omega
      · obtain rfl : kk = us.length := by omega
        obtain ⟨e0, e1, e2, el⟩ := TR.out.cells
        have f0 := TR.out.free 0
        have f1 := TR.out.free 1
        have f2 := TR.out.free 2
        rw [← RV.out] at VR
        obtain ⟨g0, g1, g2, gl⟩ := VR.out.cells
        go_wp2_with fail
        have TS := TR.out.set rv
        have BF := Lib.hid (below_set3 BR.out (Nat.le_refl w.heap.size) (.int .i64 rv.c) (.int .i64 rv.m) (.int .i64 rv.p))
        generalize ((wr.setCell ⟨w.heap.size, 0, none⟩ (.int .i64 rv.c)).setCell ⟨w.heap.size, 1, none⟩ (.int .i64 rv.m)).setCell ⟨w.heap.size, 2, none⟩ (.int .i64 rv.p) = wf at *
        obtain ⟨c0, c1, c2, -⟩ := TS.cells
        rw [OKT.out]
        exact bodyPost_ret (v := .tuple #[.agg #[.int .i64 rv.c, .int .i64 rv.m, .int .i64 rv.p], .bool true]) (by simp [results, Try.results12, go_sem, c0, c1, c2]) rfl ⟨rfl, BF.out⟩
end
end Go.Proofs.Ytffmmoligdoclaa
