/- The law of admit: any right tree. -/
import Derived.Test.YtekaefeogbmmmaaAdD
import Derived.Test.YtekaefeogbmmmaaTrL
namespace Go.Proofs.Ytekaefeogbmmmaa
open Go.RowKit
set_option linter.unusedVariables false
set_option linter.unusedSimpArgs false
section
variable (w : World)
set_option maxHeartbeats 16000000 in
set_option maxRecDepth 20000 in
theorem law_admitall (AC : AdmC) (RC : RelC) (l : List I12) (lv : Value) (h : IRow w l lv) (hz : ∀ u ∈ l, u.name.size ≤ maxLen ∧ u.parent.size ≤ maxLen) (s : ByteArray) (hsz : s.size ≤ maxLen) (v : V3) :
    Calls Try.prog 3 #[lv, .string s, .agg #[.int .i64 v.c, .int .i64 v.m, .int .i64 v.p]] w (Made (.bool true) w) := by
  have AW := Lib.hid (fun W => law_awake14 W AC)
  have NU := Lib.hid (fun W x => num14 W x)
  have GR := Lib.hid (fun W (hW : Below w.heap.size w W) => lgreat12 W l lv (h.below hW) hz)
  have H := Lib.hid h
  obtain ⟨ao, cap, rfl⟩ := h.shape
  obtain ⟨bb, hbb⟩ := bool_of (rightP l)
  have RR := Lib.hid (fun (hs : ∀ u ∈ l, u.name.size ≤ 1000000 ∧ u.parent.size ≤ 1000000) W (hW : Below w.heap.size w W) => rright W l (.slice ao l.length cap) (H.out.below hW) (fun u hu => (hs u hu).1) bb hbb)
  have HBB := Lib.hid hbb
  have ACC := Lib.hid AC
  have RCC := Lib.hid RC
  have SZ := Lib.hid hsz
  obtain ⟨i0, hi0, hz0, hz1, hz2⟩ := info_partsT info_item
  have BX := Lib.hid (below_al (Below.refl w.heap.size w) (.cells #[.int .i64 v.c, .int .i64 v.m, .int .i64 v.p] 24))
  have CV := Lib.hid (CBlk.new w v)
  clear h hz hbb AC RC
  unfold maxLen at hsz
  have ss : s.size ≤ 9223372036854775807 := by omega
  clear hsz
  go_enter Try.func3, Try.ntmps3
  go_wp2_with fail
  with_reducible refine (GR.out _ BX.out).mono ?_
  rintro e w1 ⟨b, rfl, hb, GB⟩
  have B1 := Lib.hid (below_tr BX.out hb)
  have C1 := Lib.hid (CV.out.below hb)
  clear hb BX CV
  cases b with
  | true =>
    go_wp2_with fail
    with_reducible refine (AW.out _).mono ?_
    rintro e w2 ⟨rfl, hb⟩
    have B2 := Lib.hid (below_tr B1.out hb)
    clear hb
    go_wp2_with fail
    go_ret
    exact ⟨rfl, B2.out⟩
  | false =>
    obtain ⟨g130, gs⟩ := GB.out rfl
    by_cases g1 : s.size ≤ 100
    · have i1 : (s.size : Int) ≤ 100 := by omega
      have HS : Hid (∀ u ∈ l, u.name.size ≤ 1000000 ∧ u.parent.size ≤ 1000000) := Lib.hid (fun u hu => by have := gs u hu; omega)
      have Q2 := Lib.hid (RR.out HS.out)
      clear RR gs GB g1
      cases bb with
      | false =>
        go_wp2_with fail
        with_reducible refine (Q2.out _ B1.out).mono ?_
        rintro e w3 ⟨rfl, hb⟩
        have B3 := Lib.hid (below_tr B1.out hb)
        clear hb
        go_wp2_with fail
        with_reducible refine (AW.out _).mono ?_
        rintro e w2 ⟨rfl, hb⟩
        have B2 := Lib.hid (below_tr B3.out hb)
        clear hb
        go_wp2_with fail
        go_ret
        exact ⟨rfl, B2.out⟩
      | true =>
        have RT1 := Lib.hid (right_iff.1 (HBB.out.1 rfl))
        have hl : l.length ≤ 120 := RT1.out.len
        go_wp2_with fail
        with_reducible refine (Q2.out _ B1.out).mono ?_
        rintro e w3 ⟨rfl, hb⟩
        have B3 := Lib.hid (below_tr B1.out hb)
        have C3 := Lib.hid (C1.out.below hb)
        clear hb C1 Q2
        have AM := Lib.hid (fun W (hW : Below w.heap.size w W) => ACC.out W l _ s v (H.out.below hW) RT1.out SZ.out)
        have RM := Lib.hid (fun W (hW : Below w.heap.size w W) => RCC.out W l _ s v (H.out.below hW) RT1.out SZ.out)
        have AD := Lib.hid (fun W (hW : Below w.heap.size w W) => radmit W l _ (H.out.below hW) RT1.out s v)
        have RD := Lib.hid (fun W (hW : Below w.heap.size w W) => rrelease W l _ (H.out.below hW) RT1.out s v)
        have LA := Lib.hid (show (if admE l s v = 0 then admL l s v else []).length ≤ 120 from by
          split
          · rw [adm_len]; exact hl
          · exact Nat.zero_le _)
        have LR := Lib.hid (show (if relE l s v = 0 then relL l s v else []).length ≤ 120 from by
          split
          · rw [rel_len]; exact hl
          · exact Nat.zero_le _)
        unfold AdT at AM RM
        unfold GrownI at AD RD
        generalize (if admE l s v = 0 then admL l s v else []) = al at *
        generalize (if relE l s v = 0 then relL l s v else []) = rl at *
        generalize admE l s v = ae at *
        generalize relE l s v = re at *
        clear ACC RCC
        -- the copy
        have BE := Lib.hid (below_al (Below.refl w3.heap.size w3) (.cells #[] 40))
        have E0 := Lib.hid (show (w3.alloc (.cells #[] 40)).ownsRow w3.heap.size 40 12 (.slice (some ⟨w3.heap.size, 0, none⟩) 0 0) 0 [] from ⟨by simp, .inr ⟨w3.heap.size, 0, #[], rfl, Nat.le_refl _, heap_alloc_new w3 _, Nat.le_refl _, Nat.zero_le _, by simp, by simp⟩⟩)
        obtain ⟨S1, S2⟩ := (H.out.below (below_tr B3.out BE.out)).src
        have s1 := Lib.hid S1
        have s2 := Lib.hid S2
        clear S1 S2
        go_upto_region 4 with (first
          | (at_builtin; refine wpList_append_any _ rfl _ _ 22 rfl w3.heap.size 40 i0 _ 12 112 Try.underlying22 hi0 hz0 hz1 hz2 rfl (by decide) (.slice (some ⟨w3.heap.size, 0, none⟩) 0 0) 0 [] rfl E0.out ao l.length cap (i12s l) rfl (i12s_len l) s1.out s2.out (i12s_one _) (by unfold maxLen; omega) (by omega) (by simp) ?_; intro v4 w4 hown4 hg4))
        have B4 := Lib.hid (below_grown' BE.out hg4 (fun q hq => by have h := (World.ownsRow.lt E0.out q hq).1; omega))
        have O4 := Lib.hid (show IOwn w4 w3.heap.size l v4 by unfold IOwn; first | exact hown4 | (rw [Nat.zero_add] at hown4; exact hown4) | simpa using hown4)
        have W4 := Lib.hid (irow_of_own O4.out)
        obtain ⟨wo, wc, rfl⟩ := W4.out.shape
        have D4 := Lib.hid (below_tr B3.out B4.out)
        have C4 := Lib.hid (C3.out.below B4.out)
        clear hown4 hg4 s1 s2 E0 BE O4 B4 C3
        obtain ⟨e0, e1, e2, el⟩ := C4.out.cells
        -- Admit
        go_wp2_with fail
        with_reducible refine (AM.out _ D4.out).mono ?_
        rintro e w5 ⟨r5, rfl, hb, h5⟩
        have D5 := Lib.hid (below_tr D4.out hb)
        have C5 := Lib.hid (C4.out.below hb)
        have W5 := Lib.hid (W4.out.below hb)
        have R5 := Lib.hid h5
        obtain ⟨ro5, rc5, rfl⟩ := h5.shape
        clear hb h5 e0 e1 e2 el C4 W4
        obtain ⟨e0, e1, e2, el⟩ := C5.out.cells
        go_wp2_with fail
        with_reducible refine (AD.out _ D5.out).mono ?_
        rintro e w6 ⟨r6, rfl, hb, h6⟩
        have D6 := Lib.hid (below_tr D5.out hb)
        have C6 := Lib.hid (C5.out.below hb)
        have W6 := Lib.hid (W5.out.below hb)
        have R6 := Lib.hid (R5.out.below hb)
        have X6 := Lib.hid (irow_of_own h6)
        obtain ⟨ro6, rc6, rfl⟩ := X6.out.shape
        have Y6 := Lib.hid (below_al (Below.refl w6.heap.size w6) (.cells #[.slice ro6 al.length rc6, .int .i64 (ae : Int)] 31))
        have G7 := Lib.hid (GBlk.new w6 (.slice ro6 al.length rc6) (ae : Int))
        have D7 := Lib.hid (below_tr D6.out Y6.out)
        have C7 := Lib.hid (C6.out.below Y6.out)
        have W7 := Lib.hid (W6.out.below Y6.out)
        have R7 := Lib.hid (R6.out.below Y6.out)
        have X7 := Lib.hid (X6.out.below Y6.out)
        clear hb h6 e0 e1 e2 el C5 W5 C6 W6 R5 R6 X6
        obtain ⟨e0, e1, e2, el⟩ := C7.out.cells
        -- Release
        go_wp2_with fail
        with_reducible refine (RM.out _ D7.out).mono ?_
        rintro e w8 ⟨r8, rfl, hb, h8⟩
        have D8 := Lib.hid (below_tr D7.out hb)
        have C8 := Lib.hid (C7.out.below hb)
        have W8 := Lib.hid (W7.out.below hb)
        have R8 := Lib.hid (R7.out.below hb)
        have X8 := Lib.hid (X7.out.below hb)
        have G8 := Lib.hid (G7.out.below hb)
        have S8 := Lib.hid h8
        obtain ⟨ro8, rc8, rfl⟩ := h8.shape
        clear hb h8 e0 e1 e2 el C7 W7 R7 X7 G7 Y6
        obtain ⟨e0, e1, e2, el⟩ := C8.out.cells
        go_wp2_with fail
        with_reducible refine (RD.out _ D8.out).mono ?_
        rintro e w9 ⟨r9, rfl, hb, h9⟩
        have D9 := Lib.hid (below_tr D8.out hb)
        have W9 := Lib.hid (W8.out.below hb)
        have R9 := Lib.hid (R8.out.below hb)
        have X9 := Lib.hid (X8.out.below hb)
        have G9 := Lib.hid (G8.out.below hb)
        have S9 := Lib.hid (S8.out.below hb)
        have Z9 := Lib.hid (irow_of_own h9)
        obtain ⟨ro9, rc9, rfl⟩ := Z9.out.shape
        have Y9 := Lib.hid (below_al (Below.refl w9.heap.size w9) (.cells #[.slice ro9 rl.length rc9, .int .i64 (re : Int)] 31))
        have F7 := Lib.hid (GBlk.new w9 (.slice ro9 rl.length rc9) (re : Int))
        have D10 := Lib.hid (below_tr D9.out Y9.out)
        have W10 := Lib.hid (W9.out.below Y9.out)
        have R10 := Lib.hid (R9.out.below Y9.out)
        have X10 := Lib.hid (X9.out.below Y9.out)
        have G10 := Lib.hid (G9.out.below Y9.out)
        have S10 := Lib.hid (S9.out.below Y9.out)
        have Z10 := Lib.hid (Z9.out.below Y9.out)
        clear hb h9 e0 e1 e2 el W8 R8 X8 G8 S8 W9 R9 X9 G9 S9 Z9 C8
        go_wp2_with fail
        generalize w9.heap.size = b9 at *
        generalize w6.heap.size = b6 at *
        generalize w9.alloc (.cells #[.slice ro9 rl.length rc9, .int .i64 (re : Int)] 31) = wa at *
        have HH := Lib.hid (H.out.below D10.out)
        have M1 := Lib.hid (fun W (hW : Below wa.heap.size wa W) => rsame W al al _ _ (R10.out.below hW) (X10.out.below hW) LA.out LA.out true (iff_of_true rfl rfl))
        have M2 := Lib.hid (fun W (hW : Below wa.heap.size wa W) => rsame W rl rl _ _ (S10.out.below hW) (Z10.out.below hW) LR.out LR.out true (iff_of_true rfl rfl))
        have M3 := Lib.hid (fun W (hW : Below wa.heap.size wa W) => rsame W l l _ _ (HH.out.below hW) (W10.out.below hW) hl hl true (iff_of_true rfl rfl))
        obtain ⟨g0, g1⟩ := G10.out.cells
        obtain ⟨f0, f1⟩ := F7.out.cells
        refine wp_region_mono (by kernel_rfl) (by kernel_rfl) ?_
        simp only [List.map_cons, List.map_nil, List.append_eq, List.cons_append, List.nil_append]
        repeat (first
          | (apply wpM_is
             · (intro us W hW hg K hK
                clear hg
                have d0 := hold hW g0
                have d1 := hold hW g1
                have d2 := hold hW f0
                have d3 := hold hW f1
                simp only [fillA]
                go_simp
                first
                | exact hK _ (Below.refl _ _)
                | ((with_reducible refine (M1.out _ hW).mono ?_); rintro e w' ⟨rfl, hb⟩; exact hK _ hb)
                | ((with_reducible refine (M2.out _ hW).mono ?_); rintro e w' ⟨rfl, hb⟩; exact hK _ hb)
                | ((with_reducible refine (M3.out _ hW).mono ?_); rintro e w' ⟨rfl, hb⟩; exact hK _ hb)
                | ((with_reducible refine (NU.out _ _).mono ?_); rintro e w' ⟨rfl, rfl⟩; exact hK _ (Below.refl _ _))
                | ((with_reducible refine (AW.out _).mono ?_); rintro e w' ⟨rfl, hb⟩; exact hK _ hb))
             simp only [setD, List.set_cons_zero, List.set_cons_succ]))
        intro us W hW hg
        simp only [fillA]
        clear hg
        have BF := Lib.hid (below_tr D10.out hW)
        clear hW g0 g1 f0 f1
        go_wp2_with fail
        go_ret
        exact ⟨rfl, BF.out⟩
    · have i1 : (100 : Int) < (s.size : Int) := by omega
      clear g1
      go_wp2_with fail
      with_reducible refine (AW.out _).mono ?_
      rintro e w2 ⟨rfl, hb⟩
      have B2 := Lib.hid (below_tr B1.out hb)
      clear hb
      go_wp2_with fail
      go_ret
      exact ⟨rfl, B2.out⟩
end
end Go.Proofs.Ytekaefeogbmmmaa
