/- The law of room: trees made by numbers. -/
import Derived.Test.YtffmmoligdoclaaRmF
import Derived.Test.YtffmmoligdoclaaTrV
namespace Go.Proofs.Ytffmmoligdoclaa
open Go.RowKit
set_option linter.unusedVariables false
set_option linter.unusedSimpArgs false
section
variable (w : World)
set_option maxHeartbeats 16000000 in
set_option maxRecDepth 100000 in
theorem lnames (ns : List Nat) (nv : Value) (h : NumsRd .u8 w nv (ns.map fun n : Nat => (n : Int))) (hr : ∀ x ∈ ns, x ≤ 255) (hl : ns.length ≤ 1000) : Calls Try.prog 19 #[nv] w (MadeStrs (ns.map fun n => letS (n % 25)) w) := by
  obtain ⟨ao, cap, rfl, hat⟩ := h
  rw [List.length_map] at *
  have HAT := Lib.hid hat
  have HR := Lib.hid hr
  obtain ⟨i0, hi0, hz0, hz1, hz2⟩ := info_partsT info_str
  clear hat hr
  go_enter Try.func19, Try.ntmps19
  go_wp2_with fail
  go_loopg [3, 4] ns.length (fun m ov iv wr => ∃ k : Nat, iv = .int .i64 (k : Int) ∧ ns.length - k ≤ m ∧ k ≤ ns.length ∧ Below w.heap.size w wr ∧ StrsO wr w.heap.size ov ((ns.take k).map fun n => letS (n % 25)))
  case atStart => exact ⟨0, rfl, Nat.le_refl _, Nat.zero_le _, Below.refl _ _, (own_none _ _ _ _ : World.ownsRow _ _ _ _ _ _ _)⟩
  case round =>
    obtain ⟨k, rfl, hm, hk, hb, ho⟩ := hrel
    have HM := Lib.hid hm
    have BR := Lib.hid hb
    have OO := Lib.hid ho
    obtain ⟨oo, oc, rfl⟩ := ho.shape
    clear hm hb ho
    by_cases hlt : k < ns.length
    · obtain ⟨n, hn⟩ : ∃ n, ns[k]? = some n := ⟨_, List.getElem?_eq_getElem hlt⟩
      have nb := HR.out n (List.mem_of_getElem? hn)
      obtain ⟨g, o, rfl, a0'⟩ := HAT.out k (n : Int) (by rw [List.getElem?_map, hn]; rfl)
      have a0 := hold BR.out a0'
      obtain ⟨cc, hcc⟩ : ∃ cc : UInt8, cc = UInt8.ofNat (97 + n % 25) := ⟨_, rfl⟩
      have hcv := ddig_conv wr (97 + (n : Int) % 25) cc (by
        rw [hcc, UInt8.toNat_ofNat']
        rw [show (97 + n % 25) % 2 ^ 8 = 97 + n % 25 by omega]
        push_cast
        rfl)
      have wc1 : IntKind.u8.wrap (97 + (n : Int) % 25) = 97 + (n : Int) % 25 := by
        rw [IntKind.wrap_u8]; omega
      have NS := Lib.hid (show ((ns.take (k + 1)).map fun n => letS (n % 25)) = ((ns.take k).map fun n => letS (n % 25)) ++ [⟨#[cc]⟩] from by
        rw [List.take_add_one, hn]
        simp only [Option.toList_some, List.map_append, List.map_cons, List.map_nil]
        congr 2
        unfold letS; rw [hcc])
      have LN := Lib.hid (show ((ns.take k).map fun n => letS (n % 25)).length ≤ 1000 from by rw [List.length_map, List.length_take]; omega)
      have x0 : (0 : Int) ≤ (k : Int) := by omega
      have x1 : (k : Int) < (ns.length : Int) := by omega
      generalize ((ns.take k).map fun n => letS (n % 25)) = out at *
      clear hn a0' hcc
      have BA := Lib.hid (below_al (below_al (Below.refl wr.heap.size wr) (.cells #[.int .u8 (97 + (n : Int) % 25)] 5)) (.cells #[.string ⟨#[cc]⟩] 9))
      have O1 := Lib.hid (show ((wr.alloc (.cells #[.int .u8 (97 + (n : Int) % 25)] 5)).alloc (.cells #[.string ⟨#[cc]⟩] 9)).ownsRow w.heap.size 9 1 (.slice oo out.length oc) out.length (strC out) from World.ownsRow.alloc (World.ownsRow.alloc OO.out _) _)
      have NW := Lib.hid (show ∀ j u, ([.string ⟨#[cc]⟩] : List Value)[j]? = some u → ((wr.alloc (.cells #[.int .u8 (97 + (n : Int) % 25)] 5)).alloc (.cells #[.string ⟨#[cc]⟩] 9)).cell? ((⟨wr.heap.size + 1, 0, none⟩ : Addr).add j) = some u from by
        have h0 := news_str (wr.alloc (.cells #[.int .u8 (97 + (n : Int) % 25)] 5)) ⟨#[cc]⟩
        rw [show (wr.alloc (.cells #[.int .u8 (97 + (n : Int) % 25)] 5)).heap.size = wr.heap.size + 1 by simp] at h0
        exact h0)
      have B1 := Lib.hid (below_tr BR.out BA.out)
      have LOW := Lib.hid (show ∀ q, (Value.slice oo out.length oc).ownBlock = some q → w.heap.size ≤ q from fun q hq => (World.ownsRow.lt OO.out q hq).1)
      go_wp2_with (first
        | (at_builtin; refine wpList_append_lies _ rfl _ _ 23 rfl w.heap.size 9 i0 (.string ⟨#[]⟩) 1 16 Try.underlying23 hi0 hz0 hz1 hz2 rfl (by decide) (.slice oo out.length oc) out.length (strC out) rfl O1.out ⟨wr.heap.size + 1, 0, none⟩ 1 1 [.string ⟨#[cc]⟩] rfl rfl NW.out (by simp [Value.oneCell']) (by decide) (by have := LN.out; unfold maxLen; omega) (by have := LN.out; omega) B1.out.size _ rfl ?_; intro gg cp w6 hown6 hgrow6 hat6 hlt6))
      have B6 := Lib.hid (below_grown' B1.out hgrow6 LOW.out)
      have O6 := Lib.hid (show StrsO w6 w.heap.size (.slice (some ⟨gg, 0, none⟩) (out.length + 1) cp) ((ns.take (k + 1)).map fun n => letS (n % 25)) from by
        rw [NS.out]
        unfold StrsO
        rw [List.length_append, strC_app]; exact hown6)
      clear hown6 hgrow6 hat6 hlt6
      go_wp2_with fail
      go_roundg (ns.length - (k + 1))
      case rel => exact ⟨k + 1, by go_num, Nat.le_refl _, hlt, B6.out, O6.out⟩
      case measure => have := HM.out; omega
    · obtain rfl : k = ns.length := by omega
      go_wp2_with fail
      go_ret
      refine ⟨_, rfl, BR.out, ?_⟩
      show StrsO wr w.heap.size (.slice oo ((ns.take ns.length).map fun n => letS (n % 25)).length oc) _
      have h := OO.out
      rw [List.take_length] at h ⊢
      exact h
set_option maxHeartbeats 16000000 in
set_option maxRecDepth 100000 in
theorem law_roommade (OF : OfC) (TI : TiC) (SH : ShC) (ns ms : List Nat) (nv mv : Value) (which : Nat) (hw : which ≤ 255) (h : NumsRd .u8 w nv (ns.map fun n : Nat => (n : Int))) (hr : ∀ x ∈ ns, x ≤ 255) (hmx : ns.length ≤ maxLen)
    (h2 : NumsRd .u8 w mv (ms.map fun n : Nat => (n : Int))) (hr2 : ∀ x ∈ ms, x ≤ 255) (hmx2 : ms.length ≤ maxLen) : Calls Try.prog 4 #[nv, mv, .int .u8 (which : Int)] w (Made (.bool true) w) := by
  have AW := Lib.hid (fun W => law_awake13 W OF)
  have HN := Lib.hid h
  have HRR := Lib.hid hr
  have HN2 := Lib.hid h2
  have HRR2 := Lib.hid hr2
  obtain ⟨ao, cap, rfl, hat⟩ := h
  obtain ⟨mo, mc, rfl, hat2⟩ := h2
  simp only [List.length_map] at HN HN2 ⊢
  have OFF := Lib.hid OF
  have TII := Lib.hid TI
  have SHH := Lib.hid SH
  clear hat hr hat2 hr2 OF TI SH
  unfold maxLen at hmx hmx2
  by_cases hbig : 90 < ns.length
  · have y0 : (90 : Int) < (ns.length : Int) := by omega
    go_enter Try.func4, Try.ntmps4
    go_wp2_with fail
    with_reducible refine (AW.out _).mono ?_
    rintro e w2 ⟨rfl, hb⟩
    have B2 := Lib.hid (hb)
    clear hb
    go_wp2_with fail
    go_ret
    exact ⟨rfl, B2.out⟩
  · by_cases hbig2 : 20 < ms.length
    · have y0 : (ns.length : Int) ≤ 90 := by omega
      have y1 : (20 : Int) < (ms.length : Int) := by omega
      go_enter Try.func4, Try.ntmps4
      go_wp2_with fail
      with_reducible refine (AW.out _).mono ?_
      rintro e w2 ⟨rfl, hb⟩
      have B2 := Lib.hid (hb)
      clear hb
      go_wp2_with fail
      go_ret
      exact ⟨rfl, B2.out⟩
    · have y0 : (ns.length : Int) ≤ 90 := by omega
      have y1 : (ms.length : Int) ≤ 20 := by omega
      have MK := Lib.hid (lmakeT w ns (.slice ao ns.length cap) HN.out HRR.out (by omega))
      have MR := Lib.hid (make_right ns [] RT.nil (Nat.zero_le _))
      generalize makeT ns [] = l at *
      have RR := Lib.hid MR.out.1
      have hl24 : l.length ≤ 24 := MR.out.2
      have m20 := Lib.hid (show ms.length ≤ 20 by omega)
      have NMS := Lib.hid (fun W (hW : Below w.heap.size w W) => lnames W ms (.slice mo ms.length mc) (by
        obtain ⟨a, c, e, hc⟩ := HN2.out
        exact ⟨a, c, e, fun j x hx => by
          obtain ⟨g, o, e2, h3⟩ := hc j x hx
          exact ⟨g, o, e2, hold hW h3⟩⟩) HRR2.out (by have := m20.out; omega))
      go_enter Try.func4, Try.ntmps4
      go_wp2_with fail
      with_reducible refine MK.out.mono ?_
      rintro e w1 ⟨lv, rfl, hb1, ho1⟩
      have B1 := Lib.hid hb1
      have W1 := Lib.hid (irow_of_own ho1)
      obtain ⟨lo, lc, rfl⟩ := W1.out.shape
      clear hb1 ho1
      obtain ⟨cc, hcc⟩ : ∃ cc : UInt8, cc = UInt8.ofNat (97 + which % 25) := ⟨_, rfl⟩
      have hcv := ddig_conv w1 (97 + (which : Int) % 25) cc (by
        rw [hcc, UInt8.toNat_ofNat']
        rw [show (97 + which % 25) % 2 ^ 8 = 97 + which % 25 by omega]
        push_cast
        rfl)
      have wc1 : IntKind.u8.wrap (97 + (which : Int) % 25) = 97 + (which : Int) % 25 := by
        rw [IntKind.wrap_u8]; omega
      have BA := Lib.hid (below_al (Below.refl w1.heap.size w1) (.cells #[.int .u8 (97 + (which : Int) % 25)] 5))
      replace hcc := Lib.hid hcc
      obtain ⟨s, hs⟩ : ∃ s : ByteArray, s = ⟨#[cc]⟩ := ⟨_, rfl⟩
      have SZ := Lib.hid (show s.size ≤ maxLen from by rw [hs]; show 1 ≤ maxLen; decide)
      rw [← hs] at hcv
      have OF1 := Lib.hid (fun W (hW : Below w1.heap.size w1 W) => OFF.out W l _ s (W1.out.below hW) RR.out SZ.out)
      have RO1 := Lib.hid (fun W (hW : Below w1.heap.size w1 W) => rroom W l _ (W1.out.below hW) RR.out s)
      have TI1 := Lib.hid (fun W (hW : Below w1.heap.size w1 W) => TII.out W l _ s (W1.out.below hW) RR.out SZ.out)
      have TI2 := Lib.hid (fun W (hW : Below w1.heap.size w1 W) => rtight W l _ (W1.out.below hW) RR.out s)
      have SZN := Lib.hid (show ∀ t ∈ ms.map (fun n => letS (n % 25)), t.size ≤ maxLen from fun t ht => by
        obtain ⟨n, -, rfl⟩ := List.mem_map.1 ht
        show 1 ≤ maxLen; decide)
      have LNN := Lib.hid (show (ms.map fun n => letS (n % 25)).length ≤ 1000 from by rw [List.length_map]; have := m20.out; omega)
      have SH1 := Lib.hid (fun W (hW : Below w1.heap.size w1 W) tv (hT : SRow W (ms.map fun n => letS (n % 25)) tv) => SHH.out W l _ _ tv (W1.out.below hW) RR.out hT LNN.out SZN.out)
      have SH2 := Lib.hid (fun W (hW : Below w1.heap.size w1 W) tv (hT : SRow W (ms.map fun n => letS (n % 25)) tv) => rshare W l _ (W1.out.below hW) RR.out _ tv hT LNN.out)
      have TLN := Lib.hid (show (tightL l s).length ≤ 1000 from by
        have h1 := tightTo_len l (roomV l s) (upI l s) (upI l s).length
        rw [tightTo_all] at h1
        have := RR.out.up s; omega)
      generalize roomV l s = rv at *
      generalize okU (upI l s) = oku at *
      generalize tightL l s = tl at *
      generalize ms.map (fun n => letS (n % 25)) = mns at *
      generalize shareV l mns = sv at *
      clear OFF TII SHH hs
      go_wp2_with fail
      with_reducible refine (OF1.out _ BA.out).mono ?_
      rintro e w4 ⟨rfl, hb⟩
      have B4 := Lib.hid (below_tr BA.out hb)
      have B4' := Lib.hid (below_al B4.out (.cells #[.int .i64 rv.c, .int .i64 rv.m, .int .i64 rv.p] 27))
      have V4 := Lib.hid (CBlk.new w4 rv)
      clear hb hcv wc1
      go_wp2_with fail
      with_reducible refine (RO1.out _ B4'.out).mono ?_
      rintro e w5 ⟨rfl, hb⟩
      have B5 := Lib.hid (below_tr B4'.out hb)
      have V5 := Lib.hid (V4.out.below hb)
      have V5' := Lib.hid (V5.out.al (.cells #[.int .i64 rv.c, .int .i64 rv.m, .int .i64 rv.p] 27))
      have N5 := Lib.hid (CBlk.new w5 rv)
      have B5' := Lib.hid (below_al B5.out (.cells #[.int .i64 rv.c, .int .i64 rv.m, .int .i64 rv.p] 27))
      obtain ⟨e0, e1, e2, el⟩ := V5'.out.cells
      obtain ⟨f0, f1, f2, fl⟩ := N5.out.cells
      clear hb
      go_wp2_with fail
      with_reducible refine (TI1.out _ B5'.out).mono ?_
      rintro e w6 ⟨v6, rfl, hb, ho6⟩
      have B6 := Lib.hid (below_tr B5'.out hb)
      have O6 := Lib.hid ho6
      clear hb ho6 e0 e1 e2 el f0 f1 f2 fl
      go_wp2_with fail
      with_reducible refine (TI2.out _ B6.out).mono ?_
      rintro e w7 ⟨v7, rfl, hb, ho7⟩
      have B7 := Lib.hid (below_tr B6.out hb)
      have O7 := Lib.hid ho7
      have O6b := Lib.hid (O6.out.below hb)
      clear hb ho7
      go_wp2_with fail
      with_reducible refine (rtexts _ tl tl _ _ v6 v7 O6b.out O7.out (by have := TLN.out; omega)).mono ?_
      rintro e w8 ⟨rfl, hb⟩
      have B8 := Lib.hid (below_tr B7.out hb)
      rw [decide_eq_true rfl]
      clear hb O6 O7 O6b
      go_wp2_with fail
      with_reducible refine (NMS.out _ (below_tr B1.out B8.out)).mono ?_
      rintro e w9 ⟨n9, rfl, hb, ho9⟩
      have B9 := Lib.hid (below_tr B8.out hb)
      have R9 := Lib.hid (srow_of ho9)
      clear hb ho9
      go_wp2_with fail
      with_reducible refine (SH1.out _ B9.out _ R9.out).mono ?_
      rintro e w10 ⟨rfl, hb⟩
      have B10 := Lib.hid (below_tr B9.out hb)
      clear hb
      go_wp2_with fail
      with_reducible refine (NMS.out _ (below_tr B1.out B10.out)).mono ?_
      rintro e w11 ⟨n11, rfl, hb, ho11⟩
      have B11 := Lib.hid (below_tr B10.out hb)
      have R11 := Lib.hid (srow_of ho11)
      clear hb ho11
      go_wp2_with fail
      with_reducible refine (SH2.out _ B11.out _ R11.out).mono ?_
      rintro e w12 ⟨rfl, hb⟩
      have B12 := Lib.hid (below_tr B11.out hb)
      clear hb
      go_wp2_with fail
      with_reducible refine (AW.out _).mono ?_
      rintro e w13 ⟨rfl, hb⟩
      have B13 := Lib.hid (below_tr (below_tr B1.out B12.out) hb)
      clear hb
      go_wp2_with fail
      go_ret
      exact ⟨rfl, B13.out⟩
end
end Go.Proofs.Ytffmmoligdoclaa
