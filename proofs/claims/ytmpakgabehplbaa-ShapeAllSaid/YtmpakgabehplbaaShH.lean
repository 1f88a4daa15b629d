/- The law of shape: any right tree, any step. -/
import Derived.Test.YtmpakgabehplbaaShG
namespace Go.Proofs.Ytmpakgabehplbaa
open Go.RowKit
set_option linter.unusedVariables false
set_option linter.unusedSimpArgs false
section
variable (w : World)
set_option maxHeartbeats 16000000 in
set_option maxRecDepth 100000 in
theorem law_shapeall (CC : CrC) (LC : LiC) (MC : MoC) (DC : DeC) (OC : DoC) (l : List I12) (lv : Value) (h : IRow w l lv) (hz : ∀ u ∈ l, u.name.size ≤ maxLen ∧ u.parent.size ≤ maxLen) (st : St6) (hsz : st.name.size ≤ maxLen) (hsp : st.par.size ≤ maxLen) (ver : Int) :
    Calls Try.prog 3 #[lv, st.val, .int .i64 ver] w (Made (.bool true) w) := by
  have AW := Lib.hid (fun W => law_awake15 W CC)
  have GR := Lib.hid (fun W (hW : Below w.heap.size w W) => lgreat12 W l lv (h.below hW) hz)
  have H := Lib.hid h
  obtain ⟨ao, cap, rfl⟩ := h.shape
  obtain ⟨bb, hbb⟩ := bool_of (rightP l)
  have RR := Lib.hid (fun (hs : ∀ u ∈ l, u.name.size ≤ 1000000 ∧ u.parent.size ≤ 1000000) W (hW : Below w.heap.size w W) => rright W l (.slice ao l.length cap) (H.out.below hW) (fun u hu => (hs u hu).1) bb hbb)
  have HBB := Lib.hid hbb
  have HCC := Lib.hid CC
  have HLC := Lib.hid LC
  have HMC := Lib.hid MC
  have HDC := Lib.hid DC
  have HOC := Lib.hid OC
  have SZ := Lib.hid hsz
  have SP := Lib.hid hsp
  obtain ⟨i0, hi0, hz0, hz1, hz2⟩ := info_partsT info_item
  have BX := Lib.hid (below_al (Below.refl w.heap.size w) (.cells #[.int .i64 st.kind, .string st.name, .string st.par, .int .i64 st.lim.c, .int .i64 st.lim.m, .int .i64 st.lim.p] 26))
  have S0 := Lib.hid (SBlk.new w st)
  clear h hz hbb CC LC MC DC OC
  unfold maxLen at hsz hsp
  have ss : st.name.size ≤ 9223372036854775807 := by omega
  have sp : st.par.size ≤ 9223372036854775807 := by omega
  clear hsz hsp
  unfold St6.val
  obtain ⟨c0, c1, c2, c3, c4, c5⟩ := S0.out.cells
  go_enter Try.func3, Try.ntmps3
  go_wp2_with fail
  with_reducible refine (GR.out _ BX.out).mono ?_
  rintro e w1 ⟨b, rfl, hb, GB⟩
  have B1 := Lib.hid (below_tr BX.out hb)
  have S1 := Lib.hid (S0.out.below hb)
  clear hb BX S0 c0 c1 c2 c3 c4 c5
  obtain ⟨c0, c1, c2, c3, c4, c5⟩ := S1.out.cells
  cases b with
  | true =>
    go_wp2_with fail
    with_reducible refine (AW.out _).mono ?_
    rintro e w2 ⟨rfl, hb⟩
    have B2 := Lib.hid (below_tr B1.out hb)
    clear hb
    go_wp2_with fail
    go_ret
    exact ⟨rfl, B2.out⟩
  | false =>
    obtain ⟨g130, gs⟩ := GB.out rfl
    by_cases g1 : st.name.size ≤ 100
    · have i1 : (st.name.size : Int) ≤ 100 := by omega
      by_cases g2 : st.par.size ≤ 100
      · have i2 : (st.par.size : Int) ≤ 100 := by omega
        have HS : Hid (∀ u ∈ l, u.name.size ≤ 1000000 ∧ u.parent.size ≤ 1000000) := Lib.hid (fun u hu => by have := gs u hu; omega)
        have Q2 := Lib.hid (RR.out HS.out)
        have SN := Lib.hid (show st.name.size ≤ 1000000 by omega)
        clear RR gs GB g1 g2
        cases bb with
        | false =>
          go_wp2_with fail
          with_reducible refine (Q2.out _ B1.out).mono ?_
          rintro e w3 ⟨rfl, hb⟩
          have B3 := Lib.hid (below_tr B1.out hb)
          clear hb c0 c1 c2 c3 c4 c5
          go_wp2_with fail
          with_reducible refine (AW.out _).mono ?_
          rintro e w2 ⟨rfl, hb⟩
          have B2 := Lib.hid (below_tr B3.out hb)
          clear hb
          go_wp2_with fail
          go_ret
          exact ⟨rfl, B2.out⟩
        | true =>
          have RT1 := Lib.hid (right_iff.1 (HBB.out.1 rfl))
          have hl : l.length ≤ 120 := RT1.out.len
          go_wp2_with fail
          with_reducible refine (Q2.out _ B1.out).mono ?_
          rintro e w3 ⟨rfl, hb⟩
          have B3 := Lib.hid (below_tr B1.out hb)
          have S3 := Lib.hid (S1.out.below hb)
          clear hb Q2 c0 c1 c2 c3 c4 c5
          have A0 := Lib.hid (fun W (hW : Below w.heap.size w W) => HCC.out W l _ st.name st.par st.lim (H.out.below hW) RT1.out SZ.out SP.out)
          have G0 := Lib.hid (fun W (hW : Below w.heap.size w W) => rcreate W l _ (H.out.below hW) (by omega) st.name st.par SN.out st.lim)
          have L0 := Lib.hid (show (if createE l st.name st.par st.lim = 0 then createL l st.name st.par st.lim else []).length ≤ 120 from by
            by_cases e : createE l st.name st.par st.lim = 0
            · rw [if_pos e]; exact (create_ok RT1.out e).len
            · rw [if_neg e]; exact Nat.zero_le _)
          have A1 := Lib.hid (fun W (hW : Below w.heap.size w W) => HLC.out W l _ st.name st.lim ver (H.out.below hW) RT1.out SZ.out)
          have G1 := Lib.hid (fun W (hW : Below w.heap.size w W) => rlimit W l _ (H.out.below hW) RT1.out st.name st.lim ver)
          have L1 := Lib.hid (show (if limE l st.name st.lim ver = 0 then limL l st.name st.lim else []).length ≤ 120 from by
            by_cases e : limE l st.name st.lim ver = 0
            · rw [if_pos e]; exact (lim_ok RT1.out e).len
            · rw [if_neg e]; exact Nat.zero_le _)
          have A2 := Lib.hid (fun W (hW : Below w.heap.size w W) => HMC.out W l _ st.name st.par ver (H.out.below hW) RT1.out SZ.out SP.out)
          have G2 := Lib.hid (fun W (hW : Below w.heap.size w W) => rmove W l _ (H.out.below hW) RT1.out st.name st.par ver)
          have L2 := Lib.hid (show (if movE l st.name st.par ver = 0 then movL l st.name st.par else []).length ≤ 120 from by
            by_cases e : movE l st.name st.par ver = 0
            · rw [if_pos e]; exact (mov_ok RT1.out e).len
            · rw [if_neg e]; exact Nat.zero_le _)
          have A3 := Lib.hid (fun W (hW : Below w.heap.size w W) => HDC.out W l _ st.name ver (H.out.below hW) RT1.out SZ.out)
          have G3 := Lib.hid (fun W (hW : Below w.heap.size w W) => rdelete W l _ (H.out.below hW) RT1.out st.name ver)
          have L3 := Lib.hid (show (if delE l st.name ver = 0 then delL l st.name else []).length ≤ 120 from by
            by_cases e : delE l st.name ver = 0
            · rw [if_pos e]; exact (del_ok RT1.out e).len
            · rw [if_neg e]; exact Nat.zero_le _)
          have A4 := Lib.hid (fun W (hW : Below w.heap.size w W) => HOC.out W l _ st ver (H.out.below hW) RT1.out SZ.out SP.out)
          have G4 := Lib.hid (fun W (hW : Below w.heap.size w W) => rdo W l _ (H.out.below hW) RT1.out st ver SN.out)
          have L4 := Lib.hid (show (if doE l st ver = 0 then doL l st else []).length ≤ 120 from by
            by_cases e : doE l st ver = 0
            · rw [if_pos e]; exact (do_ok RT1.out e).len
            · rw [if_neg e]; exact Nat.zero_le _)
          unfold ShT at A0 A1 A2 A3 A4
          unfold GrownI at G0 G1 G2 G3 G4
          unfold St6.val at A4 G4
          generalize (if doE l st ver = 0 then doL l st else []) = l4 at *
          generalize doE l st ver = e4 at *
          generalize (if createE l st.name st.par st.lim = 0 then createL l st.name st.par st.lim else []) = l0 at *
          generalize createE l st.name st.par st.lim = e0 at *
          generalize (if limE l st.name st.lim ver = 0 then limL l st.name st.lim else []) = l1 at *
          generalize limE l st.name st.lim ver = e1 at *
          generalize (if movE l st.name st.par ver = 0 then movL l st.name st.par else []) = l2 at *
          generalize movE l st.name st.par ver = e2 at *
          generalize (if delE l st.name ver = 0 then delL l st.name else []) = l3 at *
          generalize delE l st.name ver = e3 at *
          clear HCC HLC HMC HDC HOC
          have BE := Lib.hid (below_al (Below.refl w3.heap.size w3) (.cells #[] 52))
          have E0 := Lib.hid (show (w3.alloc (.cells #[] 52)).ownsRow w3.heap.size 52 12 (.slice (some ⟨w3.heap.size, 0, none⟩) 0 0) 0 [] from ⟨by simp, .inr ⟨w3.heap.size, 0, #[], rfl, Nat.le_refl _, heap_alloc_new w3 _, Nat.le_refl _, Nat.zero_le _, by simp, by simp⟩⟩)
          obtain ⟨S1', S2'⟩ := (H.out.below (below_tr B3.out BE.out)).src
          have s1 := Lib.hid S1'
          have s2 := Lib.hid S2'
          clear S1' S2'
          go_upto_region 4 with (first
            | (at_builtin; refine wpList_append_any _ rfl _ _ 22 rfl w3.heap.size 52 i0 _ 12 112 Try.underlying22 hi0 hz0 hz1 hz2 rfl (by decide) (.slice (some ⟨w3.heap.size, 0, none⟩) 0 0) 0 [] rfl E0.out ao l.length cap (i12s l) rfl (i12s_len l) s1.out s2.out (i12s_one _) (by unfold maxLen; omega) (by omega) (by simp) ?_; intro v4 w4 hown4 hg4))
          have B4 := Lib.hid (below_grown' BE.out hg4 (fun q hq => by have h := (World.ownsRow.lt E0.out q hq).1; omega))
          have O4 := Lib.hid (show IOwn w4 w3.heap.size l v4 by unfold IOwn; first | exact hown4 | (rw [Nat.zero_add] at hown4; exact hown4) | simpa using hown4)
          have W4 := Lib.hid (irow_of_own O4.out)
          obtain ⟨wo, wc, rfl⟩ := W4.out.shape
          have D4 := Lib.hid (below_tr B3.out B4.out)
          have S4 := Lib.hid (S3.out.below B4.out)
          clear hown4 hg4 s1 s2 E0 BE O4 B4 S3 B1 S1
          obtain ⟨c0, c1, c2, c3, c4, c5⟩ := S4.out.cells
          go_wp2_with fail
          with_reducible refine (A0.out _ D4.out).mono ?_
          rintro e w5 ⟨r0, rfl, hb, h5⟩
          have D5 := Lib.hid (below_tr D4.out hb)
          have S5 := Lib.hid (S4.out.below hb)
          have W5 := Lib.hid (W4.out.below hb)
          have R0_5 := Lib.hid h5
          obtain ⟨ro0, rc0, rfl⟩ := h5.shape
          clear hb h5 c0 c1 c2 c3 c4 c5 S4 W4 D4 A0 
          obtain ⟨c0, c1, c2, c3, c4, c5⟩ := S5.out.cells
          go_wp2_with fail
          with_reducible refine (A1.out _ D5.out).mono ?_
          rintro e w6 ⟨r1, rfl, hb, h6⟩
          have D6 := Lib.hid (below_tr D5.out hb)
          have S6 := Lib.hid (S5.out.below hb)
          have W6 := Lib.hid (W5.out.below hb)
          have R0_6 := Lib.hid (R0_5.out.below hb)
          have R1_6 := Lib.hid h6
          obtain ⟨ro1, rc1, rfl⟩ := h6.shape
          clear hb h6 c0 c1 c2 c3 c4 c5 S5 W5 D5 A1 R0_5
          obtain ⟨c0, c1, c2, c3, c4, c5⟩ := S6.out.cells
          go_wp2_with fail
          with_reducible refine (A2.out _ D6.out).mono ?_
          rintro e w7 ⟨r2, rfl, hb, h7⟩
          have D7 := Lib.hid (below_tr D6.out hb)
          have S7 := Lib.hid (S6.out.below hb)
          have W7 := Lib.hid (W6.out.below hb)
          have R0_7 := Lib.hid (R0_6.out.below hb)
          have R1_7 := Lib.hid (R1_6.out.below hb)
          have R2_7 := Lib.hid h7
          obtain ⟨ro2, rc2, rfl⟩ := h7.shape
          clear hb h7 c0 c1 c2 c3 c4 c5 S6 W6 D6 A2 R0_6 R1_6
          obtain ⟨c0, c1, c2, c3, c4, c5⟩ := S7.out.cells
          go_wp2_with fail
          with_reducible refine (A3.out _ D7.out).mono ?_
          rintro e w8 ⟨r3, rfl, hb, h8⟩
          have D8 := Lib.hid (below_tr D7.out hb)
          have S8 := Lib.hid (S7.out.below hb)
          have W8 := Lib.hid (W7.out.below hb)
          have R0_8 := Lib.hid (R0_7.out.below hb)
          have R1_8 := Lib.hid (R1_7.out.below hb)
          have R2_8 := Lib.hid (R2_7.out.below hb)
          have R3_8 := Lib.hid h8
          obtain ⟨ro3, rc3, rfl⟩ := h8.shape
          clear hb h8 c0 c1 c2 c3 c4 c5 S7 W7 D7 A3 R0_7 R1_7 R2_7
          obtain ⟨c0, c1, c2, c3, c4, c5⟩ := S8.out.cells
          go_wp2_with fail
          with_reducible refine (A4.out _ D8.out).mono ?_
          rintro e w9 ⟨r4, rfl, hb, h9⟩
          have D9 := Lib.hid (below_tr D8.out hb)
          have S9 := Lib.hid (S8.out.below hb)
          have W9 := Lib.hid (W8.out.below hb)
          have R0_9 := Lib.hid (R0_8.out.below hb)
          have R1_9 := Lib.hid (R1_8.out.below hb)
          have R2_9 := Lib.hid (R2_8.out.below hb)
          have R3_9 := Lib.hid (R3_8.out.below hb)
          have R4_9 := Lib.hid h9
          obtain ⟨ro4, rc4, rfl⟩ := h9.shape
          clear hb h9 c0 c1 c2 c3 c4 c5 S8 W8 D8 A4 R0_8 R1_8 R2_8 R3_8
          obtain ⟨c0, c1, c2, c3, c4, c5⟩ := S9.out.cells
          go_wp2_with fail
          with_reducible refine (G0.out _ D9.out).mono ?_
          rintro e w10 ⟨g0, rfl, hb, h10⟩
          have D10 := Lib.hid (below_tr D9.out hb)
          have S10 := Lib.hid (S9.out.below hb)
          have W10 := Lib.hid (W9.out.below hb)
          have R0_10 := Lib.hid (R0_9.out.below hb)
          have R1_10 := Lib.hid (R1_9.out.below hb)
          have R2_10 := Lib.hid (R2_9.out.below hb)
          have R3_10 := Lib.hid (R3_9.out.below hb)
          have R4_10 := Lib.hid (R4_9.out.below hb)
          have SM0 := Lib.hid (psame15 w10 l0 _ _ e0 R0_10.out (irow_of_own h10) L0.out)
          obtain ⟨go0, gc0, rfl⟩ := (irow_of_own h10).shape
          clear hb h10 c0 c1 c2 c3 c4 c5 S9 W9 D9 G0 R0_9 R1_9 R2_9 R3_9 R4_9
          obtain ⟨c0, c1, c2, c3, c4, c5⟩ := S10.out.cells
          go_wp2_with fail
          with_reducible refine SM0.out.mono ?_
          rintro e w11 ⟨rfl, hb⟩
          have D11 := Lib.hid (below_tr D10.out hb)
          have S11 := Lib.hid (S10.out.below hb)
          have W11 := Lib.hid (W10.out.below hb)
          have R1_11 := Lib.hid (R1_10.out.below hb)
          have R2_11 := Lib.hid (R2_10.out.below hb)
          have R3_11 := Lib.hid (R3_10.out.below hb)
          have R4_11 := Lib.hid (R4_10.out.below hb)
          clear hb c0 c1 c2 c3 c4 c5 S10 W10 D10 SM0 R0_10 R1_10 R2_10 R3_10 R4_10
          obtain ⟨c0, c1, c2, c3, c4, c5⟩ := S11.out.cells
          go_wp2_with fail
          with_reducible refine (G1.out _ D11.out).mono ?_
          rintro e w12 ⟨g1, rfl, hb, h12⟩
          have D12 := Lib.hid (below_tr D11.out hb)
          have S12 := Lib.hid (S11.out.below hb)
          have W12 := Lib.hid (W11.out.below hb)
          have R1_12 := Lib.hid (R1_11.out.below hb)
          have R2_12 := Lib.hid (R2_11.out.below hb)
          have R3_12 := Lib.hid (R3_11.out.below hb)
          have R4_12 := Lib.hid (R4_11.out.below hb)
          have SM1 := Lib.hid (psame15 w12 l1 _ _ e1 R1_12.out (irow_of_own h12) L1.out)
          obtain ⟨go1, gc1, rfl⟩ := (irow_of_own h12).shape
          clear hb h12 c0 c1 c2 c3 c4 c5 S11 W11 D11 G1 R1_11 R2_11 R3_11 R4_11
          obtain ⟨c0, c1, c2, c3, c4, c5⟩ := S12.out.cells
          go_wp2_with fail
          with_reducible refine SM1.out.mono ?_
          rintro e w13 ⟨rfl, hb⟩
          have D13 := Lib.hid (below_tr D12.out hb)
          have S13 := Lib.hid (S12.out.below hb)
          have W13 := Lib.hid (W12.out.below hb)
          have R2_13 := Lib.hid (R2_12.out.below hb)
          have R3_13 := Lib.hid (R3_12.out.below hb)
          have R4_13 := Lib.hid (R4_12.out.below hb)
          clear hb c0 c1 c2 c3 c4 c5 S12 W12 D12 SM1 R1_12 R2_12 R3_12 R4_12
          obtain ⟨c0, c1, c2, c3, c4, c5⟩ := S13.out.cells
          go_wp2_with fail
          with_reducible refine (G2.out _ D13.out).mono ?_
          rintro e w14 ⟨g2, rfl, hb, h14⟩
          have D14 := Lib.hid (below_tr D13.out hb)
          have S14 := Lib.hid (S13.out.below hb)
          have W14 := Lib.hid (W13.out.below hb)
          have R2_14 := Lib.hid (R2_13.out.below hb)
          have R3_14 := Lib.hid (R3_13.out.below hb)
          have R4_14 := Lib.hid (R4_13.out.below hb)
          have SM2 := Lib.hid (psame15 w14 l2 _ _ e2 R2_14.out (irow_of_own h14) L2.out)
          obtain ⟨go2, gc2, rfl⟩ := (irow_of_own h14).shape
          clear hb h14 c0 c1 c2 c3 c4 c5 S13 W13 D13 G2 R2_13 R3_13 R4_13
          obtain ⟨c0, c1, c2, c3, c4, c5⟩ := S14.out.cells
          go_wp2_with fail
          with_reducible refine SM2.out.mono ?_
          rintro e w15 ⟨rfl, hb⟩
          have D15 := Lib.hid (below_tr D14.out hb)
          have S15 := Lib.hid (S14.out.below hb)
          have W15 := Lib.hid (W14.out.below hb)
          have R3_15 := Lib.hid (R3_14.out.below hb)
          have R4_15 := Lib.hid (R4_14.out.below hb)
          clear hb c0 c1 c2 c3 c4 c5 S14 W14 D14 SM2 R2_14 R3_14 R4_14
          obtain ⟨c0, c1, c2, c3, c4, c5⟩ := S15.out.cells
          go_wp2_with fail
          with_reducible refine (G3.out _ D15.out).mono ?_
          rintro e w16 ⟨g3, rfl, hb, h16⟩
          have D16 := Lib.hid (below_tr D15.out hb)
          have S16 := Lib.hid (S15.out.below hb)
          have W16 := Lib.hid (W15.out.below hb)
          have R3_16 := Lib.hid (R3_15.out.below hb)
          have R4_16 := Lib.hid (R4_15.out.below hb)
          have SM3 := Lib.hid (psame15 w16 l3 _ _ e3 R3_16.out (irow_of_own h16) L3.out)
          obtain ⟨go3, gc3, rfl⟩ := (irow_of_own h16).shape
          clear hb h16 c0 c1 c2 c3 c4 c5 S15 W15 D15 G3 R3_15 R4_15
          obtain ⟨c0, c1, c2, c3, c4, c5⟩ := S16.out.cells
          go_wp2_with fail
          with_reducible refine SM3.out.mono ?_
          rintro e w17 ⟨rfl, hb⟩
          have D17 := Lib.hid (below_tr D16.out hb)
          have S17 := Lib.hid (S16.out.below hb)
          have W17 := Lib.hid (W16.out.below hb)
          have R4_17 := Lib.hid (R4_16.out.below hb)
          clear hb c0 c1 c2 c3 c4 c5 S16 W16 D16 SM3 R3_16 R4_16
          obtain ⟨c0, c1, c2, c3, c4, c5⟩ := S17.out.cells
          go_wp2_with fail
          with_reducible refine (G4.out _ D17.out).mono ?_
          rintro e w18 ⟨g4, rfl, hb, h18⟩
          have D18 := Lib.hid (below_tr D17.out hb)
          have S18 := Lib.hid (S17.out.below hb)
          have W18 := Lib.hid (W17.out.below hb)
          have R4_18 := Lib.hid (R4_17.out.below hb)
          have SM4 := Lib.hid (psame15 w18 l4 _ _ e4 R4_18.out (irow_of_own h18) L4.out)
          obtain ⟨go4, gc4, rfl⟩ := (irow_of_own h18).shape
          clear hb h18 c0 c1 c2 c3 c4 c5 S17 W17 D17 G4 R4_17
          obtain ⟨c0, c1, c2, c3, c4, c5⟩ := S18.out.cells
          go_wp2_with fail
          with_reducible refine SM4.out.mono ?_
          rintro e w19 ⟨rfl, hb⟩
          have D19 := Lib.hid (below_tr D18.out hb)
          have S19 := Lib.hid (S18.out.below hb)
          have W19 := Lib.hid (W18.out.below hb)
          clear hb c0 c1 c2 c3 c4 c5 S18 W18 D18 SM4 R4_18
          obtain ⟨c0, c1, c2, c3, c4, c5⟩ := S19.out.cells
          have WE := Lib.hid (rsame w19 l l _ _ (H.out.below D19.out) W19.out hl hl true (iff_of_true rfl rfl))
          clear c0 c1 c2 c3 c4 c5
          go_wp2_with fail
          with_reducible refine WE.out.mono ?_
          rintro e wy ⟨rfl, hb⟩
          have DY := Lib.hid (below_tr D19.out hb)
          clear hb
          go_wp2_with fail
          with_reducible refine (AW.out _).mono ?_
          rintro e w2 ⟨rfl, hb⟩
          have B2 := Lib.hid (below_tr DY.out hb)
          clear hb
          go_wp2_with fail
          go_ret
          exact ⟨rfl, B2.out⟩
      · have i2 : (100 : Int) < (st.par.size : Int) := by omega
        clear g1 g2
        go_wp2_with fail
        with_reducible refine (AW.out _).mono ?_
        rintro e w2 ⟨rfl, hb⟩
        have B2 := Lib.hid (below_tr B1.out hb)
        clear hb
        go_wp2_with fail
        go_ret
        exact ⟨rfl, B2.out⟩
    · have i1 : (100 : Int) < (st.name.size : Int) := by omega
      clear g1
      go_wp2_with fail
      with_reducible refine (AW.out _).mono ?_
      rintro e w2 ⟨rfl, hb⟩
      have B2 := Lib.hid (below_tr B1.out hb)
      clear hb
      go_wp2_with fail
      go_ret
      exact ⟨rfl, B2.out⟩
end
end Go.Proofs.Ytmpakgabehplbaa
