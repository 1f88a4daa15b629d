/- The law of admit: trees made by numbers, one call behind the other. -/
import Derived.Test.YtekaefeogbmmmaaAdE
import Derived.Test.YtekaefeogbmmmaaTrV
import Derived.Deep.DeepCutAuto
namespace Go.Proofs.Ytekaefeogbmmmaa
open Go.RowKit
set_option linter.unusedVariables false
set_option linter.unusedSimpArgs false
/-- What a round of the law has: a row and an error beside the document's. -/
def MadeAt (w1 wx : World) (bx : Nat) (av ev : Value) : Prop := ∃ (E : Nat) (L : List I12) (xv : Value), ev = .int .i64 (E : Int) ∧ (E = 0 → RT L) ∧ L.length ≤ 120 ∧ Below w1.heap.size w1 wx ∧ IRow wx L av ∧ GBlk wx bx xv (E : Int) ∧ IRow wx L xv
theorem IRow.grown {w : World} {l : List I12} {v : Value} (h : IRow w l v) {g n c : Nat} {ao : Option Addr} {E : Int} (hG : GBlk w g (.slice ao n c) E) (a b : Value) : IRow ((w.setCell ⟨g, 0, none⟩ a).setCell ⟨g, 1, none⟩ b) l v := by
  obtain ⟨ro, cap, rfl, h1, h2, hc⟩ := h
  refine ⟨ro, cap, rfl, h1, h2, fun i u hu => ?_⟩
  obtain ⟨gr, o, e, hat⟩ := hc i u hu
  have hne : gr ≠ g := by
    rintro rfl
    have c0 := hat.c0
    unfold GBlk at hG
    rw [cell_of_row _ _ _ _ _ _ hG] at c0
    match hk : o + i * 12 with
    | 0 => rw [hk] at c0; simp at c0
    | 1 => rw [hk] at c0; simp at c0
    | k + 2 => rw [hk] at c0; simp at c0
  have key : ∀ (q : Nat) (x : Value), w.cell? ⟨gr, q, none⟩ = some x → ((w.setCell ⟨g, 0, none⟩ a).setCell ⟨g, 1, none⟩ b).cell? ⟨gr, q, none⟩ = some x := fun q x hx => by
    rw [World.cell?_of_block (a := ⟨gr, q, none⟩) (w := w) (by rw [Below.heap_setCell _ _ _ _ hne, Below.heap_setCell _ _ _ _ hne])]
    exact hx
  exact ⟨gr, o, e, key _ _ hat.c0, key _ _ hat.c1, key _ _ hat.c2, key _ _ hat.c3, key _ _ hat.c4, key _ _ hat.c5, key _ _ hat.c6, key _ _ hat.c7, key _ _ hat.c8, key _ _ hat.c9, key _ _ hat.c10, key _ _ hat.c11⟩
section
variable (w : World)
set_option maxHeartbeats 16000000 in
set_option maxRecDepth 100000 in
theorem law_admitmade (AC : AdmC) (RC : RelC) (ns ms : List Nat) (nv mv : Value) (h : NumsRd .u8 w nv (ns.map fun n : Nat => (n : Int))) (hr : ∀ x ∈ ns, x ≤ 255) (hmx : ns.length ≤ maxLen)
    (h2 : NumsRd .u8 w mv (ms.map fun n : Nat => (n : Int))) (hr2 : ∀ x ∈ ms, x ≤ 255) (hmx2 : ms.length ≤ maxLen) : Calls Try.prog 4 #[nv, mv] w (Made (.bool true) w) := by
  have AW := Lib.hid (fun W => law_awake14 W AC)
  have NU := Lib.hid (fun W x => num14 W x)
  have HN := Lib.hid h
  have HRR := Lib.hid hr
  have HN2 := Lib.hid h2
  have HRR2 := Lib.hid hr2
  have ACC := Lib.hid AC
  have RCC := Lib.hid RC
  obtain ⟨ao, cap, rfl, hat⟩ := h
  obtain ⟨mo, mc, rfl, hat2⟩ := h2
  have HAT2 := Lib.hid hat2
  simp only [List.length_map] at HN HN2 ⊢
  clear hat hr hat2 hr2 AC RC
  unfold maxLen at hmx hmx2
  by_cases hbig : 90 < ns.length
  · have y0 : (90 : Int) < (ns.length : Int) := by omega
    go_enter Try.func4, Try.ntmps4
    go_wp2_with fail
    with_reducible refine (AW.out _).mono ?_
    rintro e w2 ⟨rfl, hb⟩
    have B2 := Lib.hid (hb)
    clear hb
    go_wp2_with fail
    go_ret
    exact ⟨rfl, B2.out⟩
  · by_cases hbig2 : 60 < ms.length
    · have y0 : (ns.length : Int) ≤ 90 := by omega
      have y1 : (60 : Int) < (ms.length : Int) := by omega
      go_enter Try.func4, Try.ntmps4
      go_wp2_with fail
      with_reducible refine (AW.out _).mono ?_
      rintro e w2 ⟨rfl, hb⟩
      have B2 := Lib.hid (hb)
      clear hb
      go_wp2_with fail
      go_ret
      exact ⟨rfl, B2.out⟩
    · have y0 : (ns.length : Int) ≤ 90 := by omega
      have y1 : (ms.length : Int) ≤ 60 := by omega
      have MK := Lib.hid (lmakeT w ns (.slice ao ns.length cap) HN.out HRR.out (by omega))
      have MR := Lib.hid (make_right ns [] RT.nil (Nat.zero_le _))
      generalize makeT ns [] = l0 at *
      go_enter Try.func4, Try.ntmps4
      go_wp2_with fail
      with_reducible refine MK.out.mono ?_
      rintro e w1 ⟨lv0, rfl, hb1, ho1⟩
      have B1 := Lib.hid hb1
      have W1 := Lib.hid (irow_of_own ho1)
      obtain ⟨lo, lc, rfl⟩ := W1.out.shape
      clear hb1 ho1 MK
      have m60 := Lib.hid (show ms.length ≤ 60 by omega)
      go_wp2_with fail
      go_loopg [5, 6] ms.length (fun m lv iv wr => ∃ (k : Nat) (l : List I12), iv = .int .i64 (k : Int) ∧ ms.length - k ≤ m ∧ k ≤ ms.length ∧ RT l ∧ Below w1.heap.size w1 wr ∧ IRow wr l lv)
      case atStart => exact ⟨0, l0, rfl, Nat.le_refl _, Nat.zero_le _, MR.out.1, Below.refl _ _, W1.out⟩
      case round =>
        obtain ⟨k, l, rfl, hm, hk, hrt, hb, hi⟩ := hrel
        have HM := Lib.hid hm
        have RR := Lib.hid hrt
        have BR := Lib.hid hb
        have IR := Lib.hid hi
        have k60 : (k : Int) ≤ 60 := by have := m60.out; omega
        obtain ⟨ro, rc, rfl⟩ := hi.shape
        clear hm hrt hb hi
        by_cases hlt : k + 1 < ms.length
        · have g1 : (k : Int) + 1 < (ms.length : Int) := by omega
          have g0 : (0 : Int) ≤ (k : Int) := by omega
          have g2 : (k : Int) < (ms.length : Int) := by omega
          have g3 : (0 : Int) ≤ (k : Int) + 1 := by omega
          obtain ⟨a, ha⟩ : ∃ a, ms[k]? = some a := ⟨_, List.getElem?_eq_getElem (by omega)⟩
          obtain ⟨b, hb⟩ : ∃ b, ms[k + 1]? = some b := ⟨_, List.getElem?_eq_getElem hlt⟩
          have b255 := HRR2.out b (List.mem_of_getElem? hb)
          have a255 := HRR2.out a (List.mem_of_getElem? ha)
          obtain ⟨gm, om, rfl, ca⟩ := HAT2.out k (a : Int) (by rw [List.getElem?_map, ha]; rfl)
          obtain ⟨_, _, e9, cb⟩ := HAT2.out (k + 1) (b : Int) (by rw [List.getElem?_map, hb]; rfl)
          cases e9
          have BW := Lib.hid (B1.out.trans (BR.out.mono B1.out.size))
          have U8B := Lib.hid (below_al (Below.refl wr.heap.size wr) (.cells #[.int .u8 (97 + (a : Int) % 26)] 5))
          have k0 := hold BW.out ca
          have k1 := hold (below_tr BW.out U8B.out) cb
          obtain ⟨cc, hcc⟩ : ∃ cc : UInt8, cc = UInt8.ofNat (97 + a % 26) := ⟨_, rfl⟩
          have hcv := ddig_conv wr (97 + (a : Int) % 26) cc (by
            rw [hcc, UInt8.toNat_ofNat']
            rw [show (97 + a % 26) % 2 ^ 8 = 97 + a % 26 by omega]
            push_cast
            rfl)
          have wc1 : IntKind.u8.wrap (97 + (a : Int) % 26) = 97 + (a : Int) % 26 := by
            rw [IntKind.wrap_u8]; omega
          have wb1 : IntKind.i64.wrap (b : Int) = (b : Int) := by rw [IntKind.wrap_i64]; omega
          have wk1 : IntKind.i64.wrap ((k : Int) + 1) = (k : Int) + 1 := by rw [IntKind.wrap_i64]; omega
          obtain ⟨u, hu⟩ : ∃ u : Nat, u = b / 2 := ⟨_, rfl⟩
          obtain ⟨c0, hc0⟩ : ∃ c0 : Nat, c0 = u % 40 := ⟨_, rfl⟩
          obtain ⟨m0, hm0⟩ : ∃ m0 : Nat, m0 = u / 3 := ⟨_, rfl⟩
          obtain ⟨p0, hp0⟩ : ∃ p0 : Nat, p0 = u % 7 := ⟨_, rfl⟩
          obtain ⟨par, hpar⟩ : ∃ par : Nat, par = b % 2 := ⟨_, rfl⟩
          have q0 : (b : Int) / 2 = (u : Int) := by rw [hu]; push_cast; rfl
          have q1 : (u : Int) % 40 = (c0 : Int) := by rw [hc0]; push_cast; rfl
          have q2 : (u : Int) / 3 = (m0 : Int) := by rw [hm0]; push_cast; rfl
          have q3 : (u : Int) % 7 = (p0 : Int) := by rw [hp0]; push_cast; rfl
          have q4 : (b : Int) % 2 = (par : Int) := by rw [hpar]; push_cast; rfl
          have u255 : u ≤ 255 := by omega
          have par1 : par ≤ 1 := by omega
          obtain ⟨s, hs⟩ : ∃ s : ByteArray, s = ⟨#[cc]⟩ := ⟨_, rfl⟩
          have SZ := Lib.hid (show s.size ≤ maxLen from by rw [hs]; show 1 ≤ maxLen; decide)
          rw [← hs] at hcv
          obtain ⟨v, hv⟩ : ∃ v : V3, v = ⟨(c0 : Int), (m0 : Int), (p0 : Int)⟩ := ⟨_, rfl⟩
          have VB := Lib.hid (below_al U8B.out (.cells #[.int .i64 (c0 : Int), .int .i64 (m0 : Int), .int .i64 (p0 : Int)] 24))
          have NB := Lib.hid (show CBlk ((wr.alloc (.cells #[.int .u8 (97 + (a : Int) % 26)] 5)).alloc (.cells #[.int .i64 (c0 : Int), .int .i64 (m0 : Int), .int .i64 (p0 : Int)] 24)) (wr.heap.size + 1) v from by rw [hv]; exact heap_at (by simp))
          have k2 := hold (below_al (Below.refl _ (wr.alloc (.cells #[.int .u8 (97 + (a : Int) % 26)] 5))) (.cells #[.int .i64 (c0 : Int), .int .i64 (m0 : Int), .int .i64 (p0 : Int)] 24)) k1
          clear ha hb ca cb hcc hs hu hc0 hm0 hp0 hpar
          go_upto_region 10 with fail
          generalize ((wr.alloc (.cells #[.int .u8 (97 + (a : Int) % 26)] 5)).alloc (.cells #[.int .i64 (c0 : Int), .int .i64 (m0 : Int), .int .i64 (p0 : Int)] 24)) = wv at *
          generalize wr.heap.size + 1 = bv at *
          have AM := Lib.hid (fun V (hV : Below wr.heap.size wr V) => ACC.out V l _ s v (IR.out.below hV) RR.out SZ.out)
          have RM := Lib.hid (fun V (hV : Below wr.heap.size wr V) => RCC.out V l _ s v (IR.out.below hV) RR.out SZ.out)
          have AD := Lib.hid (fun V (hV : Below wr.heap.size wr V) => radmit V l _ (IR.out.below hV) RR.out s v)
          have RD := Lib.hid (fun V (hV : Below wr.heap.size wr V) => rrelease V l _ (IR.out.below hV) RR.out s v)
          have LA := Lib.hid (show (if admE l s v = 0 then admL l s v else []).length ≤ 120 ∧ (admE l s v = 0 → RT (if admE l s v = 0 then admL l s v else [])) from by
            by_cases e : admE l s v = 0
            · rw [if_pos e]; exact ⟨by rw [adm_len]; exact RR.out.len, fun _ => adm_ok RR.out e⟩
            · rw [if_neg e]; exact ⟨Nat.zero_le _, fun h => absurd h e⟩)
          have LR := Lib.hid (show (if relE l s v = 0 then relL l s v else []).length ≤ 120 ∧ (relE l s v = 0 → RT (if relE l s v = 0 then relL l s v else [])) from by
            by_cases e : relE l s v = 0
            · rw [if_pos e]; exact ⟨by rw [rel_len]; exact RR.out.len, fun _ => rel_ok RR.out e⟩
            · rw [if_neg e]; exact ⟨Nat.zero_le _, fun h => absurd h e⟩)
          unfold AdT at AM RM
          unfold GrownI at AD RD
          generalize (if admE l s v = 0 then admL l s v else []) = al at *
          generalize (if relE l s v = 0 then relL l s v else []) = rl at *
          generalize admE l s v = ae at *
          generalize relE l s v = re at *
          have e0 := NB.out.cells.1
          have e1 := NB.out.cells.2.1
          have e2 := NB.out.cells.2.2.1
          have D4 := Lib.hid (show Below wr.heap.size wr wv from VB.out)
          clear wc1 wb1 q0 q1 q2 q3 hcv k0 k1
          rw [hv] at AM RM AD RD e0 e1 e2
          -- Admit
          go_wp2_with fail
          with_reducible refine (AM.out _ D4.out).mono ?_
          rintro e w5 ⟨r5, rfl, hb, h5⟩
          have D5 := Lib.hid (below_tr D4.out hb)
          have N5 := Lib.hid (NB.out.below hb)
          have k5 := hold hb k2
          have R5 := Lib.hid h5
          obtain ⟨ro5, rc5, rfl⟩ := h5.shape
          clear hb h5 e0 e1 e2 k2
          have e0 := N5.out.cells.1
          have e1 := N5.out.cells.2.1
          have e2 := N5.out.cells.2.2.1
          rw [hv] at e0 e1 e2
          go_wp2_with fail
          with_reducible refine (AD.out _ D5.out).mono ?_
          rintro e w6 ⟨r6, rfl, hb, h6⟩
          have D6 := Lib.hid (below_tr D5.out hb)
          have N6 := Lib.hid (N5.out.below hb)
          have k6 := hold hb k5
          have R6 := Lib.hid (R5.out.below hb)
          have X6 := Lib.hid (irow_of_own h6)
          obtain ⟨ro6, rc6, rfl⟩ := X6.out.shape
          have Y6 := Lib.hid (below_al (Below.refl w6.heap.size w6) (.cells #[.slice ro6 al.length rc6, .int .i64 (ae : Int)] 31))
          have G7 := Lib.hid (GBlk.new w6 (.slice ro6 al.length rc6) (ae : Int))
          have D7 := Lib.hid (below_tr D6.out Y6.out)
          have N7 := Lib.hid (N6.out.below Y6.out)
          have k7 := hold Y6.out k6
          have R7 := Lib.hid (R6.out.below Y6.out)
          have X7 := Lib.hid (X6.out.below Y6.out)
          clear hb h6 e0 e1 e2 N5 R5 R6 X6 k5 k6
          go_upto_if 70 with fail
          have FBZ := Lib.hid D6.out.size
          generalize w6.heap.size = b6 at *
          generalize w6.alloc (.cells #[.slice ro6 al.length rc6, .int .i64 (ae : Int)] 31) = w7 at *
          have FB := Lib.hid (show Below wr.heap.size wr w7 from D7.out)
          go_cut [10, 11] (fun av ev wx => MadeAt wr wx b6 av ev)
          case first =>
            by_cases hp : par = 0
            · have hp2 : ¬ (0 < par) := by omega
              go_wp2_with fail
              go_meet
              case rel => exact ⟨ae, al, _, rfl, LA.out.2, LA.out.1, FB.out, R7.out, G7.out, X7.out⟩
            · have hp2 : 0 < par := by omega
              have e0 := N7.out.cells.1
              have e1 := N7.out.cells.2.1
              have e2 := N7.out.cells.2.2.1
              rw [hv] at e0 e1 e2
              go_wp2_with fail
              with_reducible refine (RM.out _ D7.out).mono ?_
              rintro e w8 ⟨r8, rfl, hb, h8⟩
              have D8 := Lib.hid (below_tr D7.out hb)
              have N8 := Lib.hid (N7.out.below hb)
              have G8 := Lib.hid (G7.out.below hb)
              have R8 := Lib.hid h8
              obtain ⟨ro8, rc8, rfl⟩ := h8.shape
              have F8 := Lib.hid (below_tr FB.out hb)
              clear hb h8 e0 e1 e2
              have e0 := N8.out.cells.1
              have e1 := N8.out.cells.2.1
              have e2 := N8.out.cells.2.2.1
              rw [hv] at e0 e1 e2
              go_wp2_with fail
              with_reducible refine (RD.out _ D8.out).mono ?_
              rintro e w9 ⟨r9, rfl, hb, h9⟩
              have G9 := Lib.hid (G8.out.below hb)
              have R9 := Lib.hid (R8.out.below hb)
              have X9 := Lib.hid h9
              obtain ⟨ro9, rc9, rfl⟩ := (irow_of_own h9).shape
              have F9 := Lib.hid (below_tr F8.out hb)
              obtain ⟨g0, g1⟩ := G9.out.cells
              have f0 := G9.out.free 0
              have f1 := G9.out.free 1
              clear hb h9 e0 e1 e2
              go_wp2_with fail
              go_meet
              case rel => exact ⟨re, rl, _, rfl, LR.out.2, LR.out.1, below_set2 F9.out FBZ.out _ _, R9.out.grown G9.out _ _, G9.out.set _ _, irow_of_own (X9.out.far (X9.out.apart G9.out) _ _)⟩
          case rest =>
          obtain ⟨E, L, xv, rfl, hE, hL, hF, hA, hG, hX⟩ := hcut
          have FR := Lib.hid hF
          have AR := Lib.hid hA
          have XR := Lib.hid hX
          have GR := Lib.hid hG
          obtain ⟨xo, xc, rfl⟩ := hX.shape
          obtain ⟨av, ac, rfl⟩ := hA.shape
          have M1 := Lib.hid (fun W (hW : Below wc.heap.size wc W) => rsame W L L _ _ (AR.out.below hW) (XR.out.below hW) hL hL true (iff_of_true rfl rfl))
          obtain ⟨g0, g1⟩ := hG.cells
          have IW := Lib.hid (show IRow wc l (.slice ro l.length rc) from IR.out.below hF)
          clear hF hA hX hG AM RM AD RD
          by_cases hE0 : E = 0
          · have TE := Lib.hid (hE hE0)
            have RG := Lib.hid (fun W (hW : Below wc.heap.size wc W) => rright W L _ (AR.out.below hW) (fun x hx => (TE.out.short x hx).1) true (iff_of_true rfl (right_iff.2 TE.out)))
            subst hE0
            clear hE
            have g1' : wc.cell? ⟨b6, 1, none⟩ = some (.int .i64 0) := g1
            replace g1 := g1'
            clear g1'
            go_upto_region 15 with fail
            refine wp_region_mono (by kernel_rfl) (by kernel_rfl) ?_
            simp only [List.map_cons, List.map_nil, List.append_eq, List.cons_append, List.nil_append]
            repeat (first
              | (apply wpM_is
                 · (intro us W hW hg K hK
                    clear hg
                    have d0 := hold hW g0
                    have d1 := hold hW g1
                    simp only [fillA]
                    go_simp
                    first
                    | exact hK _ (Below.refl _ _)
                    | ((with_reducible refine (M1.out _ hW).mono ?_); rintro e w' ⟨rfl, hb⟩; exact hK _ hb)
                    | ((with_reducible refine (RG.out _ hW).mono ?_); rintro e w' ⟨rfl, hb⟩; exact hK _ hb)
                    | ((with_reducible refine (NU.out _ _).mono ?_); rintro e w' ⟨rfl, rfl⟩; exact hK _ (Below.refl _ _)))
                 simp only [setD, List.set_cons_zero, List.set_cons_succ]))
            intro us W hW hg
            simp only [fillA]
            clear hg
            have d0 := hold hW g0
            have d1 := hold hW g1
            have WF := Lib.hid (BR.out.trans ((below_tr FR.out hW).mono BR.out.size))
            have XF := Lib.hid (XR.out.below hW)
            have LF := Lib.hid (IW.out.below hW)
            clear hW g0 g1
            go_wp2_with fail
            go_roundg (ms.length - (k + 2))
            case rel => exact ⟨k + 2, L, by go_num, Nat.le_refl _, hlt, TE.out, WF.out, XF.out⟩
            case measure => have := HM.out; omega
          · have ne : ((E : Int) == 0) = false := beq_false_of_ne (by omega)
            clear hE hE0
            go_upto_region 15 with fail
            refine wp_region_mono (by kernel_rfl) (by kernel_rfl) ?_
            simp only [List.map_cons, List.map_nil, List.append_eq, List.cons_append, List.nil_append]
            repeat (first
              | (apply wpM_is
                 · (intro us W hW hg K hK
                    clear hg
                    have d0 := hold hW g0
                    have d1 := hold hW g1
                    simp only [fillA]
                    go_simp
                    first
                    | exact hK _ (Below.refl _ _)
                    | ((with_reducible refine (M1.out _ hW).mono ?_); rintro e w' ⟨rfl, hb⟩; exact hK _ hb)
                    | ((with_reducible refine (NU.out _ _).mono ?_); rintro e w' ⟨rfl, rfl⟩; exact hK _ (Below.refl _ _)))
                 simp only [setD, List.set_cons_zero, List.set_cons_succ]))
            intro us W hW hg
            simp only [fillA]
            clear hg
            have d0 := hold hW g0
            have d1 := hold hW g1
            have WF := Lib.hid (BR.out.trans ((below_tr FR.out hW).mono BR.out.size))
            have XF := Lib.hid (XR.out.below hW)
            have LF := Lib.hid (IW.out.below hW)
            clear hW g0 g1
            go_wp2_with fail
            go_roundg (ms.length - (k + 2))
            case rel => exact ⟨k + 2, l, by go_num, Nat.le_refl _, hlt, RR.out, WF.out, LF.out⟩
            case measure => have := HM.out; omega
        · have g1 : (ms.length : Int) ≤ (k : Int) + 1 := by omega
          go_wp2_with fail
          with_reducible refine (AW.out _).mono ?_
          rintro e w2 ⟨rfl, hb⟩
          have B2 := Lib.hid (B1.out.trans ((BR.out.mono B1.out.size)))
          have B3 := Lib.hid (below_tr B2.out hb)
          clear hb
          go_wp2_with fail
          go_ret
          exact ⟨rfl, B3.out⟩
end
end Go.Proofs.Ytekaefeogbmmmaa
