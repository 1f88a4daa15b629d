/- The law of room: any right tree. -/
import Derived.Test.YtffmmoligdoclaaRmE
namespace Go.Proofs.Ytffmmoligdoclaa
open Go.RowKit
set_option linter.unusedVariables false
set_option linter.unusedSimpArgs false
section
variable (w : World)
set_option maxHeartbeats 16000000 in
set_option maxRecDepth 20000 in
theorem law_roomall (OF : OfC) (TI : TiC) (SH : ShC) (l : List I12) (lv : Value) (h : IRow w l lv) (hz : ∀ u ∈ l, u.name.size ≤ maxLen ∧ u.parent.size ≤ maxLen) (s : ByteArray) (hsz : s.size ≤ maxLen)
    (ns : List ByteArray) (nv : Value) (hn : SRow w ns nv) (hnz : ∀ s ∈ ns, s.size ≤ maxLen) (hnl : ns.length ≤ maxLen) :
    Calls Try.prog 3 #[lv, .string s, nv] w (Made (.bool true) w) := by
  have AW := Lib.hid (fun W => law_awake13 W OF)
  have GR := Lib.hid (lgreat12 w l lv h hz)
  have H := Lib.hid h
  have HN := Lib.hid hn
  obtain ⟨ao, cap, rfl⟩ := h.shape
  obtain ⟨no, nc, rfl⟩ := hn.shape
  obtain ⟨bb, hbb⟩ := bool_of (rightP l)
  have RR := Lib.hid (fun (hs : ∀ u ∈ l, u.name.size ≤ 1000000 ∧ u.parent.size ≤ 1000000) W (hW : Below w.heap.size w W) => rright W l (.slice ao l.length cap) (H.out.below hW) (fun u hu => (hs u hu).1) bb hbb)
  have HBB := Lib.hid hbb
  have OFF := Lib.hid OF
  have TII := Lib.hid TI
  have SHH := Lib.hid SH
  have HNZ := Lib.hid hnz
  have SZ := Lib.hid hsz
  clear h hz hbb hn OF TI SH hnz
  unfold maxLen at hsz hnl
  have ss : s.size ≤ 9223372036854775807 := by omega
  have nn : ns.length ≤ 9223372036854775807 := by omega
  clear hsz hnl
  go_enter Try.func3, Try.ntmps3
  go_wp2_with fail
  with_reducible refine GR.out.mono ?_
  rintro e w1 ⟨b, rfl, hb, GB⟩
  have B1 := Lib.hid hb
  clear hb
  cases b with
  | true =>
    go_wp2_with fail
    with_reducible refine (AW.out _).mono ?_
    rintro e w2 ⟨rfl, hb⟩
    have B2 := Lib.hid (below_tr B1.out hb)
    clear hb
    go_wp2_with fail
    go_ret
    exact ⟨rfl, B2.out⟩
  | false =>
    obtain ⟨g130, gs⟩ := GB.out rfl
    by_cases g1 : s.size ≤ 100
    · have i1 : (s.size : Int) ≤ 100 := by omega
      by_cases g2 : ns.length ≤ 20
      · have i2 : (ns.length : Int) ≤ 20 := by omega
        have HS : Hid (∀ u ∈ l, u.name.size ≤ 1000000 ∧ u.parent.size ≤ 1000000) := Lib.hid (fun u hu => by have := gs u hu; omega)
        have Q2 := Lib.hid (RR.out HS.out)
        have n20 := Lib.hid g2
        clear RR gs GB g1 g2
        cases bb with
        | false =>
          go_wp2_with fail
          with_reducible refine (Q2.out _ B1.out).mono ?_
          rintro e w3 ⟨rfl, hb⟩
          have B3 := Lib.hid (below_tr B1.out hb)
          clear hb
          go_wp2_with fail
          with_reducible refine (AW.out _).mono ?_
          rintro e w2 ⟨rfl, hb⟩
          have B2 := Lib.hid (below_tr B3.out hb)
          clear hb
          go_wp2_with fail
          go_ret
          exact ⟨rfl, B2.out⟩
        | true =>
          have RT1 := Lib.hid (right_iff.1 (HBB.out.1 rfl))
          go_wp2_with fail
          with_reducible refine (Q2.out _ B1.out).mono ?_
          rintro e w3 ⟨rfl, hb⟩
          have B3 := Lib.hid (below_tr B1.out hb)
          clear hb
          have OF1 := Lib.hid (fun W (hW : Below w.heap.size w W) => OFF.out W l _ s (H.out.below hW) RT1.out SZ.out)
          have RO1 := Lib.hid (fun W (hW : Below w.heap.size w W) => rroom W l _ (H.out.below hW) RT1.out s)
          have TI1 := Lib.hid (fun W (hW : Below w.heap.size w W) => TII.out W l _ s (H.out.below hW) RT1.out SZ.out)
          have TI2 := Lib.hid (fun W (hW : Below w.heap.size w W) => rtight W l _ (H.out.below hW) RT1.out s)
          have SH1 := Lib.hid (fun W (hW : Below w.heap.size w W) => SHH.out W l _ ns _ (H.out.below hW) RT1.out (HN.out.below hW) (by have := n20.out; omega) HNZ.out)
          have SH2 := Lib.hid (fun W (hW : Below w.heap.size w W) => rshare W l _ (H.out.below hW) RT1.out ns _ (HN.out.below hW) (by have := n20.out; omega))
          have TLN := Lib.hid (show (tightL l s).length ≤ 1000 from by
            have h1 := tightTo_len l (roomV l s) (upI l s) (upI l s).length
            rw [tightTo_all] at h1
            have := RT1.out.up s; have := RT1.out.len; omega)
          generalize roomV l s = rv at *
          generalize okU (upI l s) = oku at *
          generalize tightL l s = tl at *
          generalize shareV l ns = sv at *
          clear Q2 OFF TII SHH
          go_wp2_with fail
          with_reducible refine (OF1.out _ B3.out).mono ?_
          rintro e w4 ⟨rfl, hb⟩
          have B4 := Lib.hid (below_tr B3.out hb)
          have B4' := Lib.hid (below_al B4.out (.cells #[.int .i64 rv.c, .int .i64 rv.m, .int .i64 rv.p] 27))
          have V4 := Lib.hid (CBlk.new w4 rv)
          clear hb
          go_wp2_with fail
          with_reducible refine (RO1.out _ B4'.out).mono ?_
          rintro e w5 ⟨rfl, hb⟩
          have B5 := Lib.hid (below_tr B4'.out hb)
          have V5 := Lib.hid (V4.out.below hb)
          have V5' := Lib.hid (V5.out.al (.cells #[.int .i64 rv.c, .int .i64 rv.m, .int .i64 rv.p] 27))
          have N5 := Lib.hid (CBlk.new w5 rv)
          have B5' := Lib.hid (below_al B5.out (.cells #[.int .i64 rv.c, .int .i64 rv.m, .int .i64 rv.p] 27))
          obtain ⟨e0, e1, e2, el⟩ := V5'.out.cells
          obtain ⟨f0, f1, f2, fl⟩ := N5.out.cells
          clear hb
          go_wp2_with fail
          with_reducible refine (TI1.out _ B5'.out).mono ?_
          rintro e w6 ⟨v6, rfl, hb, ho6⟩
          have B6 := Lib.hid (below_tr B5'.out hb)
          have O6 := Lib.hid ho6
          clear hb ho6 e0 e1 e2 el f0 f1 f2 fl
          go_wp2_with fail
          with_reducible refine (TI2.out _ B6.out).mono ?_
          rintro e w7 ⟨v7, rfl, hb, ho7⟩
          have B7 := Lib.hid (below_tr B6.out hb)
          have O7 := Lib.hid ho7
          have O6b := Lib.hid (O6.out.below hb)
          clear hb ho7
          go_wp2_with fail
          with_reducible refine (rtexts _ tl tl _ _ v6 v7 O6b.out O7.out (by have := TLN.out; omega)).mono ?_
          rintro e w8 ⟨rfl, hb⟩
          have B8 := Lib.hid (below_tr B7.out hb)
          rw [decide_eq_true rfl]
          clear hb O6 O7 O6b
          go_wp2_with fail
          with_reducible refine (SH1.out _ B8.out).mono ?_
          rintro e w9 ⟨rfl, hb⟩
          have B9 := Lib.hid (below_tr B8.out hb)
          clear hb
          go_wp2_with fail
          with_reducible refine (SH2.out _ B9.out).mono ?_
          rintro e w10 ⟨rfl, hb⟩
          have B10 := Lib.hid (below_tr B9.out hb)
          clear hb
          go_wp2_with fail
          with_reducible refine (AW.out _).mono ?_
          rintro e w11 ⟨rfl, hb⟩
          have B11 := Lib.hid (below_tr B10.out hb)
          clear hb
          go_wp2_with fail
          go_ret
          exact ⟨rfl, B11.out⟩
      · have i2 : (20 : Int) < (ns.length : Int) := by omega
        clear g1 g2
        go_wp2_with fail
        with_reducible refine (AW.out _).mono ?_
        rintro e w2 ⟨rfl, hb⟩
        have B2 := Lib.hid (below_tr B1.out hb)
        clear hb
        go_wp2_with fail
        go_ret
        exact ⟨rfl, B2.out⟩
    · have i1 : (100 : Int) < (s.size : Int) := by omega
      clear g1
      go_wp2_with fail
      with_reducible refine (AW.out _).mono ?_
      rintro e w2 ⟨rfl, hb⟩
      have B2 := Lib.hid (below_tr B1.out hb)
      clear hb
      go_wp2_with fail
      go_ret
      exact ⟨rfl, B2.out⟩
end
end Go.Proofs.Ytffmmoligdoclaa
