/- The law of room: never more below than above. -/
import Derived.Test.YtffmmoligdoclaaRmG
import Derived.Test.YtffmmoligdoclaaRmH
namespace Go.Proofs.Ytffmmoligdoclaa
open Go.RowKit
set_option linter.unusedVariables false
set_option linter.unusedSimpArgs false
section
variable (w : World)
set_option maxHeartbeats 16000000 in
set_option maxRecDepth 100000 in
theorem law_roomup (OF : OfC) (ns : List Nat) (nv : Value) (h : NumsRd .u8 w nv (ns.map fun n : Nat => (n : Int))) (hr : ∀ x ∈ ns, x ≤ 255) (hmx : ns.length ≤ maxLen) : Calls Try.prog 7 #[nv] w (Made (.bool true) w) := by
  have AW := Lib.hid (fun W => law_awake13 W OF)
  have HN := Lib.hid h
  have HRR := Lib.hid hr
  have OFF := Lib.hid OF
  obtain ⟨ao, cap, rfl, hat⟩ := h
  simp only [List.length_map] at HN ⊢
  clear hat hr OF
  unfold maxLen at hmx
  by_cases hbig : 90 < ns.length
  · have y0 : (90 : Int) < (ns.length : Int) := by omega
    go_enter Try.func7, Try.ntmps7
    go_wp2_with fail
    with_reducible refine (AW.out _).mono ?_
    rintro e w1 ⟨rfl, hb⟩
    have B1 := Lib.hid hb
    clear hb
    go_wp2_with fail
    go_ret
    exact ⟨rfl, B1.out⟩
  · have y0 : (ns.length : Int) ≤ 90 := by omega
    have MK := Lib.hid (lmakeT w ns (.slice ao ns.length cap) HN.out HRR.out (by omega))
    have MR := Lib.hid (make_right ns [] RT.nil (Nat.zero_le _))
    generalize makeT ns [] = l at *
    have RR := Lib.hid MR.out.1
    have hl24 : l.length ≤ 24 := MR.out.2
    go_enter Try.func7, Try.ntmps7
    go_wp2_with fail
    with_reducible refine MK.out.mono ?_
    rintro e w1 ⟨lv, rfl, hb1, ho1⟩
    have B1 := Lib.hid hb1
    have W1 := Lib.hid (irow_of_own ho1)
    obtain ⟨lo, lc, rfl⟩ := W1.out.shape
    clear hb1 ho1
    go_wp2_with fail
    -- GEN
    go_loopg [4] l.length (fun m iv wr => ∃ k : Nat, iv = .int .i64 (k : Int) ∧ l.length - k ≤ m ∧ k ≤ l.length ∧ Below w1.heap.size w1 wr)
    case atStart => exact ⟨0, rfl, Nat.le_refl _, Nat.zero_le _, Below.refl _ _⟩
    case round =>
      obtain ⟨k, rfl, hm, hk, hb⟩ := hrel
      have HM := Lib.hid hm
      have BR := Lib.hid hb
      clear hm hb
      have WR := Lib.hid (W1.out.below BR.out)
      by_cases hlt : k < l.length
      · obtain ⟨x, hx⟩ : ∃ x, l[k]? = some x := ⟨_, List.getElem?_eq_getElem hlt⟩
        have HX := Lib.hid hx
        have xm := List.mem_of_getElem? hx
        obtain ⟨_, _, e8, -, -, hat8⟩ := WR.out
        simp only [Value.slice.injEq, true_and] at e8
        obtain ⟨rfl, rfl⟩ := e8
        obtain ⟨gl, ol, rfl, hc8⟩ := hat8 k x hx
        have y1 : (0 : Int) ≤ (k : Int) := by omega
        have y2 : (k : Int) < (l.length : Int) := by omega
        have k0 := hc8.c0
        have XAT := Lib.hid (show ∀ V, Below w1.heap.size w1 V → I12At V gl (ol + k * 12) x from fun V hV => by
          obtain ⟨_, _, e9, _, _, h9⟩ := W1.out.below hV
          simp only [Value.slice.injEq, true_and] at e9
          obtain ⟨rfl, rfl⟩ := e9
          obtain ⟨_, _, e10, h10⟩ := h9 k x HX.out
          cases e10
          exact h10)
        obtain ⟨RU1, RU2⟩ := room_up RR.out xm
        have OKX := ok_up RR.out xm
        have nsz := RR.out.short x xm
        have OF1 := Lib.hid (OFF.out wr l _ x.name WR.out RR.out (by have := nsz.1; unfold maxLen; omega))
        rw [OKX] at OF1
        have FX := free_fit RR.out xm
        have SB := Lib.hid (fun W => rsub_any W x.lim x.sub (show (freeV x).I from by unfold FitV at FX; unfold V3.I; omega))
        have LE := Lib.hid (fun W => rle_any W (roomV l x.name) (subV x.lim x.sub))
        rw [show leV (roomV l x.name) (subV x.lim x.sub) = true from RU1] at LE
        have RU3 := Lib.hid RU2
        have NSZ := Lib.hid nsz
        obtain ⟨rv, hrv⟩ : ∃ rv, rv = roomV l x.name := ⟨_, rfl⟩
        rw [← hrv] at OF1 LE RU3
        obtain ⟨fv, hfv⟩ : ∃ fv, fv = subV x.lim x.sub := ⟨_, rfl⟩
        rw [← hfv] at SB LE
        clear hx xm hc8 hat8 RU1 RU2 OKX FX hrv hfv nsz
        go_wp2_with fail
        with_reducible refine OF1.out.mono ?_
        rintro e w5 ⟨rfl, hb5⟩
        have B5 := Lib.hid (below_tr BR.out hb5)
        have V5 := Lib.hid (CBlk.new w5 rv)
        have B6 := Lib.hid (below_al B5.out (.cells #[.int .i64 rv.c, .int .i64 rv.m, .int .i64 rv.p] 27))
        clear hb5 k0
        go_upto_region 8 with fail
        generalize hbv : w5.heap.size = bv at *
        generalize w5.alloc (.cells #[.int .i64 rv.c, .int .i64 rv.m, .int .i64 rv.p] 27) = w6 at *
        clear hbv
        obtain ⟨t0, t1, t2, tl⟩ := V5.out.cells
        obtain ⟨k0, k1, k2, k3, k4, k5, k6, k7, k8, k9, k10, k11⟩ := XAT.out w6 B6.out
        refine wp_region_mono (by kernel_rfl) (by kernel_rfl) ?_
        simp only [List.map_cons, List.map_nil]
        repeat (first
          | (apply wpM_is
             · (intro us W hW hg K hK
                clear hg
                have d0 := hold hW t0
                have d1 := hold hW t1
                have d2 := hold hW t2
                have d3 := hold hW k2
                have d4 := hold hW k3
                have d5 := hold hW k4
                have d6 := hold hW k8
                have d7 := hold hW k9
                have d8 := hold hW k10
                simp only [fillA]
                go_simp
                first
                | exact hK _ (Below.refl _ _)
                | ((with_reducible refine (SB.out _).mono ?_); rintro e w' ⟨rfl, hb⟩; exact hK _ hb)
                | ((with_reducible refine (LE.out _).mono ?_); rintro e w' ⟨rfl, hb⟩; exact hK _ hb))
             simp only [setD, List.set_cons_zero, List.set_cons_succ]))
        intro us W hW hg
        simp only [fillA]
        clear hg
        have B7 := Lib.hid (below_tr B6.out hW)
        have V7 := Lib.hid (V5.out.below hW)
        clear hW t0 t1 t2 tl k0 k1 k2 k3 k4 k5 k6 k7 k8 k9 k10 k11
        obtain ⟨k0, k1, k2, k3, k4, k5, k6, k7, k8, k9, k10, k11⟩ := XAT.out W B7.out
        by_cases hp : x.parent = ⟨#[]⟩
        · have e := tstr_empty x.parent
          rw [decide_eq_true hp] at e
          have e' : x.parent.toList = [] := by simpa using e
          clear hp
          go_wp2_with fail
          go_roundg (l.length - (k + 1))
          case rel => exact ⟨k + 1, by go_num, Nat.le_refl _, hlt, B7.out⟩
          case measure => have := HM.out; omega
        · have e := tstr_empty x.parent
          rw [decide_eq_false hp] at e
          have e' : ¬ x.parent.toList = [] := by simpa using e
          obtain ⟨OKP, LEP⟩ := RU3.out hp
          have OF2 := Lib.hid (OFF.out W l _ x.parent (W1.out.below B7.out) RR.out (by have := NSZ.out.2; unfold maxLen; omega))
          rw [OKP] at OF2
          have LE2 := Lib.hid (fun W => rle_any W rv (roomV l x.parent))
          rw [LEP] at LE2
          generalize roomV l x.parent = pv at *
          clear hp OKP LEP
          go_wp2_with fail
          with_reducible refine OF2.out.mono ?_
          rintro e w8 ⟨rfl, hb8⟩
          have B8 := Lib.hid (below_tr B7.out hb8)
          have V8 := Lib.hid ((V7.out.below hb8).al (.cells #[.int .i64 pv.c, .int .i64 pv.m, .int .i64 pv.p] 27))
          have P8 := Lib.hid (CBlk.new w8 pv)
          have B9 := Lib.hid (below_al B8.out (.cells #[.int .i64 pv.c, .int .i64 pv.m, .int .i64 pv.p] 27))
          obtain ⟨t0, t1, t2, tl⟩ := V8.out.cells
          obtain ⟨q0, q1, q2, ql⟩ := P8.out.cells
          clear hb8 k0 k1 k2 k3 k4 k5 k6 k7 k8 k9 k10 k11
          go_wp2_with fail
          with_reducible refine (LE2.out _).mono ?_
          rintro e w10 ⟨rfl, hb10⟩
          have B10 := Lib.hid (below_tr B9.out hb10)
          clear hb10
          go_wp2_with fail
          go_roundg (l.length - (k + 1))
          case rel => exact ⟨k + 1, by go_num, Nat.le_refl _, hlt, B10.out⟩
          case measure => have := HM.out; omega
      · obtain rfl : k = l.length := by omega
        have BF := Lib.hid (below_tr B1.out BR.out)
        go_wp2_with fail
        with_reducible refine (AW.out _).mono ?_
        rintro e w5 ⟨rfl, hb⟩
        have B5 := Lib.hid (below_tr BF.out hb)
        clear hb
        go_wp2_with fail
        go_ret
        exact ⟨rfl, B5.out⟩
end
end Go.Proofs.Ytffmmoligdoclaa
