/- Declared trees: the document's Top, walked. -/
import Derived.Test.YtmiadhcmhnjmfaaWnD
namespace Go.Proofs.Ytmiadhcmhnjmfaa
open Go.RowKit
set_option linter.unusedVariables false
set_option linter.unusedSimpArgs false
/-- A call that answers row l, which it made. -/
def MadeRow (l : List W5) (w : World) (e : Ending) (w' : World) : Prop := ∃ v, e = .returned v ∧ Below w.heap.size w w' ∧ w'.ownsRow w.heap.size 39 5 v l.length (w5s l)
section
variable (w : World)
set_option maxHeartbeats 16000000 in
set_option maxRecDepth 100000 in
theorem rtop (l : List W5) (lv : Value) (h : WRow w l lv) (hl : l.length ≤ 1000) : Calls Try.prog 17 #[lv] w (MadeRow (topL l) w) := by
  obtain ⟨i0, hi0, hz0, hz1, hz2⟩ := info_partsT info_want
  have H0 := Lib.hid h
  have DP := Lib.hid (fun W (hW : Below w.heap.size w W) s => rdepth W l lv (H0.out.below hW) hl s)
  obtain ⟨ao, cap, rfl, hcap, hmax, hat⟩ := h
  have HAT := Lib.hid hat
  have HL := Lib.hid hl
  clear hat hcap hmax
  go_enter Try.func17, Try.ntmps17
  go_wp2_with fail
  go_loopg [3, 4] l.length (fun m ov iv wr => ∃ i : Nat, iv = .int .i64 i ∧ l.length - i ≤ m ∧ i ≤ l.length ∧ Below w.heap.size w wr ∧ wr.ownsRow w.heap.size 39 5 ov (topTo l i).length (w5s (topTo l i)))
  case atStart => exact ⟨0, rfl, Nat.le_refl _, Nat.zero_le _, Below.refl _ _, own_none _ _ _ _⟩
  case round =>
    obtain ⟨i, rfl, hm, hi, hb, hown⟩ := hrel
    have HM := Lib.hid hm
    have BR := Lib.hid hb
    have OW := Lib.hid hown
    obtain ⟨oo, om, oc, rfl⟩ := own_slice hown
    obtain rfl : om = (topTo l i).length := by
      rcases hown.2 with ⟨e, h0⟩ | ⟨g, c, cur, e, _⟩ <;> simp only [Value.slice.injEq] at e
      · rw [h0]; exact e.2.1
      · exact e.2.1
    clear hm hb hown
    by_cases hlt : i < l.length
    · obtain ⟨x, hx⟩ : ∃ x, l[i]? = some x := ⟨_, List.getElem?_eq_getElem hlt⟩
      have HX := Lib.hid hx
      obtain ⟨g, o, rfl, hat⟩ := HAT.out i x hx
      have KX := Lib.hid (hat.below BR.out)
      have TS := Lib.hid (topTo_step hx)
      have TL := Lib.hid (topTo_len l i hi)
      have WO := Lib.hid (wrow_of_own OW.out)
      have hol : (topTo l i).length ≤ 1000 := by rw [TL.out]; have := HL.out; omega
      obtain ⟨x0', x1', x2', x3', x4'⟩ := KX.out
      clear hx hat
      generalize topTo l i = out at *
      obtain ⟨dx, hdx⟩ : ∃ d, d = depthL l x.name := ⟨_, rfl⟩
      have D1 : Hid (∀ W, Below w.heap.size w W → Calls Try.prog 14 #[.slice (some ⟨g, o, none⟩) l.length cap, .string x.name] W fun e w' => e = .returned (.int .i64 dx) ∧ W = w') := by
        rw [hdx]; exact fun W hW => DP.out W hW x.name
      have HD := Lib.hid hdx
      clear hdx
      go_wp2_with fail
      with_reducible refine (D1.out _ BR.out).mono ?_
      rintro e1 w1 ⟨rfl, rfl⟩
      go_wp2_with fail
      go_loopg [6] out.length (fun m kv ws => ∃ k : Nat, kv = .int .i64 k ∧ out.length - k ≤ m ∧ k ≤ out.length ∧ Below wr.heap.size wr ws ∧ Hid (∀ j y, j < k → out[j]? = some y → befW l x y = true))
      case atStart => exact ⟨0, rfl, Nat.le_refl _, Nat.zero_le _, Below.refl _ _, Lib.hid (fun j y hj => by omega)⟩
      case round =>
        obtain ⟨k, rfl, hm2, hk, hb2, HP⟩ := hrel
        have HM2 := Lib.hid hm2
        have BS := Lib.hid hb2
        clear hm2 hb2
        by_cases hkl : k < out.length
        · obtain ⟨y, hy⟩ : ∃ y, out[k]? = some y := ⟨_, List.getElem?_eq_getElem hkl⟩
          have HY := Lib.hid hy
          obtain ⟨ao2, cap2, e2, -, -, hat2⟩ := WO.out
          simp only [Value.slice.injEq] at e2
          obtain ⟨rfl, -, rfl⟩ := e2
          obtain ⟨g2, o2, rfl, hat3⟩ := hat2 k y hy
          obtain ⟨y0, y1, y2, y3, y4⟩ := hat3.below BS.out
          have z0 := hold BS.out x0'
          obtain ⟨dy, hdy⟩ : ∃ d, d = depthL l y.name := ⟨_, rfl⟩
          have D2 : Hid (∀ W, Below w.heap.size w W → Calls Try.prog 14 #[.slice (some ⟨g, o, none⟩) l.length cap, .string y.name] W fun e w' => e = .returned (.int .i64 dy) ∧ W = w') := by
            rw [hdy]; exact fun W hW => DP.out W hW y.name
          have BF := Lib.hid (show befW l x y = (decide (dy < dx) || (dy == dx && Op.bytesLess y.name.toList x.name.toList)) by rw [hdy, HD.out]; rfl)
          have h0 : (0 : Int) ≤ (k : Int) := by omega
          have h1 : (k : Int) < (out.length : Int) := by omega
          have h2 : (0 : Int) ≤ (i : Int) := by omega
          have h3 : (i : Int) < (l.length : Int) := by omega
          have h4 : decide ((k : Int) < (out.length : Int)) = true := by simpa using hkl
          clear hy hat2 hat3 hdy y1 y2 y3 y4
          have BWS := Lib.hid (below_tr BR.out BS.out)
          by_cases hlt1 : dy < dx
          · have h5 : decide (dy < dx) = true := by simpa using hlt1
            have NX := Lib.hid (show ∀ j y, j < k + 1 → out[j]? = some y → befW l x y = true from fun j y' hj hy' => by
              by_cases e : j = k
              · subst e
                obtain rfl : y = y' := Option.some.inj (HY.out.symm.trans hy')
                rw [BF.out, h5]; rfl
              · exact HP.out j y' (by omega) hy')
            go_wp2_with fail
            refine wp_region_mono (by kernel_rfl) (by kernel_rfl) ?_
            simp only [List.map_cons, List.map_nil]
            repeat (first
              | (apply wpM_is
                 · (intro us W hW hg K hK
                    clear hg
                    have c0 := hold hW y0
                    have c1 := hold hW z0
                    simp only [fillA]
                    go_simp
                    first
                    | exact hK _ (Below.refl _ _)
                    | ((with_reducible refine (D2.out _ (below_tr BWS.out hW)).mono ?_); rintro e w' ⟨rfl, rfl⟩; exact hK _ (Below.refl _ _))
                    | ((with_reducible refine (D1.out _ (below_tr BWS.out hW)).mono ?_); rintro e w' ⟨rfl, rfl⟩; exact hK _ (Below.refl _ _)))
                 simp only [setD, List.set_cons_zero, List.set_cons_succ]))
            intro us W hW hg
            simp only [fillA]
            clear hg
            go_wp2_with fail
            go_roundg (out.length - (k + 1))
            case rel => exact ⟨k + 1, by go_num, Nat.le_refl _, hkl, below_tr BS.out hW, NX⟩
            case measure => have := HM2.out; omega
          · have h5 : decide (dy < dx) = false := by simpa using hlt1
            by_cases heq : dy = dx
            · have h6 : (dy == dx) = true := by simpa using heq
              cases h7 : Op.bytesLess y.name.toList x.name.toList with
              | true =>
                have NX := Lib.hid (show ∀ j y, j < k + 1 → out[j]? = some y → befW l x y = true from fun j y' hj hy' => by
                  by_cases e : j = k
                  · subst e
                    obtain rfl : y = y' := Option.some.inj (HY.out.symm.trans hy')
                    rw [BF.out, h6, h7]; simp
                  · exact HP.out j y' (by omega) hy')
                clear heq
                go_wp2_with fail
                refine wp_region_mono (by kernel_rfl) (by kernel_rfl) ?_
                simp only [List.map_cons, List.map_nil]
                repeat (first
                  | (apply wpM_is
                     · (intro us W hW hg K hK
                        clear hg
                        have c0 := hold hW y0
                        have c1 := hold hW z0
                        simp only [fillA]
                        go_simp
                        first
                        | exact hK _ (Below.refl _ _)
                        | ((with_reducible refine (D2.out _ (below_tr BWS.out hW)).mono ?_); rintro e w' ⟨rfl, rfl⟩; exact hK _ (Below.refl _ _))
                        | ((with_reducible refine (D1.out _ (below_tr BWS.out hW)).mono ?_); rintro e w' ⟨rfl, rfl⟩; exact hK _ (Below.refl _ _)))
                     simp only [setD, List.set_cons_zero, List.set_cons_succ]))
                intro us W hW hg
                simp only [fillA]
                clear hg
                go_wp2_with fail
                go_roundg (out.length - (k + 1))
                case rel => exact ⟨k + 1, by go_num, Nat.le_refl _, hkl, below_tr BS.out hW, NX⟩
                case measure => have := HM2.out; omega
              | false =>
                have EX := Lib.hid (show ∀ y, out[k]? = some y → befW l x y = false from fun y' hy' => by
                  obtain rfl : y = y' := Option.some.inj (HY.out.symm.trans hy')
                  rw [BF.out, h5, h7]; simp)
                clear heq
                go_wp2_with fail
                refine wp_region_mono (by kernel_rfl) (by kernel_rfl) ?_
                simp only [List.map_cons, List.map_nil]
                repeat (first
                  | (apply wpM_is
                     · (intro us W hW hg K hK
                        clear hg
                        have c0 := hold hW y0
                        have c1 := hold hW z0
                        simp only [fillA]
                        go_simp
                        first
                        | exact hK _ (Below.refl _ _)
                        | ((with_reducible refine (D2.out _ (below_tr BWS.out hW)).mono ?_); rintro e w' ⟨rfl, rfl⟩; exact hK _ (Below.refl _ _))
                        | ((with_reducible refine (D1.out _ (below_tr BWS.out hW)).mono ?_); rintro e w' ⟨rfl, rfl⟩; exact hK _ (Below.refl _ _)))
                     simp only [setD, List.set_cons_zero, List.set_cons_succ]))
                intro us W hW hg
                simp only [fillA]
                clear hg
                have BW := Lib.hid (below_tr BS.out hW)
                have BWW := Lib.hid (below_tr BR.out BW.out)
                have WOW := Lib.hid (WO.out.below BW.out)
                have KXW := Lib.hid (KX.out.below BW.out)
                obtain ⟨T1, T2⟩ := while_take HP.out EX.out
                have TN := Lib.hid (show topTo l (i + 1) = out.take k ++ [x] ++ out.drop k by rw [TS.out]; unfold insW; rw [T1, T2])
                have hkc : k ≤ oc := by obtain ⟨_, _, e, h1, _⟩ := WOW.out; simp only [Value.slice.injEq] at e; omega
                have SL1 := wsl_take (some ⟨g2, o2, none⟩) out.length oc k hkc
                obtain ⟨so, hso⟩ : ∃ so, so = if oc = k then (some ⟨g2, o2, none⟩ : Option Addr) else (some ⟨g2, o2, none⟩ : Option Addr).map (·.add (k * 5)) := ⟨_, rfl⟩
                have SL2 : ∀ W, (Instr.slice 22 (.slice (some ⟨g2, o2, none⟩) out.length oc) (some (.int .i64 (k : Int))) none none).run Try.prog W = .ok (.slice so (out.length - k) (oc - k)) W := fun W => by rw [wsl_from (some ⟨g2, o2, none⟩) out.length oc k hk W, hso]; rfl
                have WD := Lib.hid (show WRow W (out.drop k) (.slice so (out.length - k) (oc - k)) by rw [hso]; exact WOW.out.drop k hk)
                have WT := Lib.hid (WOW.out.take k hk)
                have lk : (out.take k).length = k := by rw [List.length_take]; omega
                have ld : (out.drop k).length = out.length - k := List.length_drop ..
                have LK := Lib.hid lk
                have LD := Lib.hid ld
                have E0 := Lib.hid (show (W.alloc (.cells #[] 39)).ownsRow W.heap.size 39 5 (.slice (some ⟨W.heap.size, 0, none⟩) 0 0) 0 [] from ⟨by simp, .inr ⟨W.heap.size, 0, #[], rfl, Nat.le_refl _, heap_alloc_new W _, Nat.le_refl _, Nat.zero_le _, by simp, by simp⟩⟩)
                have BE := Lib.hid (below_al (Below.refl W.heap.size W) (.cells #[] 39))
                obtain ⟨S1, S2⟩ := (WT.out.below BE.out).src
                have s1 := Lib.hid S1
                have s2 := Lib.hid S2
                clear T1 T2 hso lk ld S1 S2 hW
                go_wp2_with (at_builtin; refine wpList_append_any _ rfl _ _ 22 rfl W.heap.size 39 i0 _ 5 56 Try.underlying22 hi0 hz0 hz1 hz2 rfl (by decide) (.slice (some ⟨W.heap.size, 0, none⟩) 0 0) 0 [] rfl E0.out (some ⟨g2, o2, none⟩) k oc (w5s (out.take k)) rfl (by rw [w5s_len, LK.out]) s1.out s2.out (w5s_one _) (by unfold maxLen; omega) (by omega) (by simp) ?_)
                intro v1 w1 hown1 hg1
                have B1 := Lib.hid (below_grown' BE.out hg1 (fun q hq => by have h := (World.ownsRow.lt E0.out q hq).1; omega))
                have O1 := Lib.hid (show w1.ownsRow W.heap.size 39 5 v1 k (w5s (out.take k)) by first | exact hown1 | (rw [Nat.zero_add] at hown1; exact hown1) | simpa using hown1)
                obtain ⟨p0, p1, p2, p3, p4⟩ := KXW.out.below B1.out
                have hi63 : (0 : Int) ≤ (i : Int) := by omega
                have BN := Lib.hid (below_al (Below.refl w1.heap.size w1) (.cells #[.string x.name, .string x.parent, .int .i64 x.lim.c, .int .i64 x.lim.m, .int .i64 x.lim.p] 39))
                have NW := Lib.hid (news_new w1 #[.string x.name, .string x.parent, .int .i64 x.lim.c, .int .i64 x.lim.m, .int .i64 x.lim.p] 39)
                have h9 := O1.out.alloc (.cells #[.string x.name, .string x.parent, .int .i64 x.lim.c, .int .i64 x.lim.m, .int .i64 x.lim.p] 39)
                have O1a := Lib.hid h9
                have S1z := Lib.hid B1.out.size
                clear hown1 hg1 s1 s2 h9 E0 BE
                go_wp2_with (at_builtin; refine wpList_append_any _ rfl _ _ 22 rfl W.heap.size 39 i0 _ 5 56 Try.underlying22 hi0 hz0 hz1 hz2 rfl (by decide) v1 k (w5s (out.take k)) rfl O1a.out (some ⟨w1.heap.size, 0, none⟩) 1 1 x.cells rfl (by rfl) (fun h => by cases h) (fun ad had j u hj => by cases had; exact NW.out j u hj) (by intro u hu; simp only [W5.cells, List.mem_cons, List.not_mem_nil, or_false] at hu; rcases hu with rfl | rfl | rfl | rfl | rfl <;> rfl) (by unfold maxLen; omega) (by omega) (by have := S1z.out; simp; omega) ?_)
                intro v2 w2 hown2 hg2
                have B2 := Lib.hid (below_grown' (below_tr B1.out BN.out) hg2 (fun q hq => by have h := (World.ownsRow.lt O1a.out q hq).1; omega))
                have O2 := Lib.hid (show w2.ownsRow W.heap.size 39 5 v2 (k + 1) (w5s (out.take k) ++ x.cells) from hown2)
                obtain ⟨S1, S2⟩ := (WD.out.below B2.out).src
                have s1 := Lib.hid S1
                have s2 := Lib.hid S2
                have S2z := Lib.hid B2.out.size
                clear hown2 hg2 S1 S2 p0 p1 p2 p3 p4 O1 O1a B1 BN NW
                go_wp2_with (at_builtin; refine wpList_append_any _ rfl _ _ 22 rfl W.heap.size 39 i0 _ 5 56 Try.underlying22 hi0 hz0 hz1 hz2 rfl (by decide) v2 (k + 1) (w5s (out.take k) ++ x.cells) rfl O2.out so (out.length - k) (oc - k) (w5s (out.drop k)) rfl (by rw [w5s_len, LD.out]) s1.out s2.out (w5s_one _) (by unfold maxLen; omega) (by omega) S2z.out ?_)
                intro v3 w3 hown3 hg3
                have B3 := Lib.hid (below_grown' B2.out hg3 (fun q hq => by have h := (World.ownsRow.lt O2.out q hq).1; omega))
                have O3 := Lib.hid (show w3.ownsRow w.heap.size 39 5 v3 (topTo l (i + 1)).length (w5s (topTo l (i + 1))) from by
                  have e1 : (topTo l (i + 1)).length = k + 1 + (out.length - k) := by rw [TN.out, List.length_append, List.length_append, LK.out, LD.out]; rfl
                  have e2 : w5s (topTo l (i + 1)) = w5s (out.take k) ++ (x.cells ++ w5s (out.drop k)) := by rw [TN.out, w5s_app, w5s_app]; simp [w5s]
                  rw [e1, e2]
                  exact own_lower hown3 BWW.out.size)
                clear hown3 hg3
                go_wp2_with fail
                go_roundg (l.length - (i + 1))
                case rel => exact ⟨i + 1, by go_num, Nat.le_refl _, hlt, below_tr BWW.out B3.out, O3.out⟩
                case measure => have := HM.out; omega
            · have h6 : (dy == dx) = false := by simpa using heq
              have EX := Lib.hid (show ∀ y, out[k]? = some y → befW l x y = false from fun y' hy' => by
                obtain rfl : y = y' := Option.some.inj (HY.out.symm.trans hy')
                rw [BF.out, h5, h6]; rfl)
              clear heq
              go_wp2_with fail
              refine wp_region_mono (by kernel_rfl) (by kernel_rfl) ?_
              simp only [List.map_cons, List.map_nil]
              repeat (first
                | (apply wpM_is
                   · (intro us W hW hg K hK
                      clear hg
                      have c0 := hold hW y0
                      have c1 := hold hW z0
                      simp only [fillA]
                      go_simp
                      first
                      | exact hK _ (Below.refl _ _)
                      | ((with_reducible refine (D2.out _ (below_tr BWS.out hW)).mono ?_); rintro e w' ⟨rfl, rfl⟩; exact hK _ (Below.refl _ _))
                      | ((with_reducible refine (D1.out _ (below_tr BWS.out hW)).mono ?_); rintro e w' ⟨rfl, rfl⟩; exact hK _ (Below.refl _ _)))
                   simp only [setD, List.set_cons_zero, List.set_cons_succ]))
              intro us W hW hg
              simp only [fillA]
              clear hg
              have BW := Lib.hid (below_tr BS.out hW)
              have BWW := Lib.hid (below_tr BR.out BW.out)
              have WOW := Lib.hid (WO.out.below BW.out)
              have KXW := Lib.hid (KX.out.below BW.out)
              obtain ⟨T1, T2⟩ := while_take HP.out EX.out
              have TN := Lib.hid (show topTo l (i + 1) = out.take k ++ [x] ++ out.drop k by rw [TS.out]; unfold insW; rw [T1, T2])
              have hkc : k ≤ oc := by obtain ⟨_, _, e, h1, _⟩ := WOW.out; simp only [Value.slice.injEq] at e; omega
              have SL1 := wsl_take (some ⟨g2, o2, none⟩) out.length oc k hkc
              obtain ⟨so, hso⟩ : ∃ so, so = if oc = k then (some ⟨g2, o2, none⟩ : Option Addr) else (some ⟨g2, o2, none⟩ : Option Addr).map (·.add (k * 5)) := ⟨_, rfl⟩
              have SL2 : ∀ W, (Instr.slice 22 (.slice (some ⟨g2, o2, none⟩) out.length oc) (some (.int .i64 (k : Int))) none none).run Try.prog W = .ok (.slice so (out.length - k) (oc - k)) W := fun W => by rw [wsl_from (some ⟨g2, o2, none⟩) out.length oc k hk W, hso]; rfl
              have WD := Lib.hid (show WRow W (out.drop k) (.slice so (out.length - k) (oc - k)) by rw [hso]; exact WOW.out.drop k hk)
              have WT := Lib.hid (WOW.out.take k hk)
              have lk : (out.take k).length = k := by rw [List.length_take]; omega
              have ld : (out.drop k).length = out.length - k := List.length_drop ..
              have LK := Lib.hid lk
              have LD := Lib.hid ld
              have E0 := Lib.hid (show (W.alloc (.cells #[] 39)).ownsRow W.heap.size 39 5 (.slice (some ⟨W.heap.size, 0, none⟩) 0 0) 0 [] from ⟨by simp, .inr ⟨W.heap.size, 0, #[], rfl, Nat.le_refl _, heap_alloc_new W _, Nat.le_refl _, Nat.zero_le _, by simp, by simp⟩⟩)
              have BE := Lib.hid (below_al (Below.refl W.heap.size W) (.cells #[] 39))
              obtain ⟨S1, S2⟩ := (WT.out.below BE.out).src
              have s1 := Lib.hid S1
              have s2 := Lib.hid S2
              clear T1 T2 hso lk ld S1 S2 hW
              go_wp2_with (at_builtin; refine wpList_append_any _ rfl _ _ 22 rfl W.heap.size 39 i0 _ 5 56 Try.underlying22 hi0 hz0 hz1 hz2 rfl (by decide) (.slice (some ⟨W.heap.size, 0, none⟩) 0 0) 0 [] rfl E0.out (some ⟨g2, o2, none⟩) k oc (w5s (out.take k)) rfl (by rw [w5s_len, LK.out]) s1.out s2.out (w5s_one _) (by unfold maxLen; omega) (by omega) (by simp) ?_)
              intro v1 w1 hown1 hg1
              have B1 := Lib.hid (below_grown' BE.out hg1 (fun q hq => by have h := (World.ownsRow.lt E0.out q hq).1; omega))
              have O1 := Lib.hid (show w1.ownsRow W.heap.size 39 5 v1 k (w5s (out.take k)) by first | exact hown1 | (rw [Nat.zero_add] at hown1; exact hown1) | simpa using hown1)
              obtain ⟨p0, p1, p2, p3, p4⟩ := KXW.out.below B1.out
              have hi63 : (0 : Int) ≤ (i : Int) := by omega
              have BN := Lib.hid (below_al (Below.refl w1.heap.size w1) (.cells #[.string x.name, .string x.parent, .int .i64 x.lim.c, .int .i64 x.lim.m, .int .i64 x.lim.p] 39))
              have NW := Lib.hid (news_new w1 #[.string x.name, .string x.parent, .int .i64 x.lim.c, .int .i64 x.lim.m, .int .i64 x.lim.p] 39)
              have h9 := O1.out.alloc (.cells #[.string x.name, .string x.parent, .int .i64 x.lim.c, .int .i64 x.lim.m, .int .i64 x.lim.p] 39)
              have O1a := Lib.hid h9
              have S1z := Lib.hid B1.out.size
              clear hown1 hg1 s1 s2 h9 E0 BE
              go_wp2_with (at_builtin; refine wpList_append_any _ rfl _ _ 22 rfl W.heap.size 39 i0 _ 5 56 Try.underlying22 hi0 hz0 hz1 hz2 rfl (by decide) v1 k (w5s (out.take k)) rfl O1a.out (some ⟨w1.heap.size, 0, none⟩) 1 1 x.cells rfl (by rfl) (fun h => by cases h) (fun ad had j u hj => by cases had; exact NW.out j u hj) (by intro u hu; simp only [W5.cells, List.mem_cons, List.not_mem_nil, or_false] at hu; rcases hu with rfl | rfl | rfl | rfl | rfl <;> rfl) (by unfold maxLen; omega) (by omega) (by have := S1z.out; simp; omega) ?_)
              intro v2 w2 hown2 hg2
              have B2 := Lib.hid (below_grown' (below_tr B1.out BN.out) hg2 (fun q hq => by have h := (World.ownsRow.lt O1a.out q hq).1; omega))
              have O2 := Lib.hid (show w2.ownsRow W.heap.size 39 5 v2 (k + 1) (w5s (out.take k) ++ x.cells) from hown2)
              obtain ⟨S1, S2⟩ := (WD.out.below B2.out).src
              have s1 := Lib.hid S1
              have s2 := Lib.hid S2
              have S2z := Lib.hid B2.out.size
              clear hown2 hg2 S1 S2 p0 p1 p2 p3 p4 O1 O1a B1 BN NW
              go_wp2_with (at_builtin; refine wpList_append_any _ rfl _ _ 22 rfl W.heap.size 39 i0 _ 5 56 Try.underlying22 hi0 hz0 hz1 hz2 rfl (by decide) v2 (k + 1) (w5s (out.take k) ++ x.cells) rfl O2.out so (out.length - k) (oc - k) (w5s (out.drop k)) rfl (by rw [w5s_len, LD.out]) s1.out s2.out (w5s_one _) (by unfold maxLen; omega) (by omega) S2z.out ?_)
              intro v3 w3 hown3 hg3
              have B3 := Lib.hid (below_grown' B2.out hg3 (fun q hq => by have h := (World.ownsRow.lt O2.out q hq).1; omega))
              have O3 := Lib.hid (show w3.ownsRow w.heap.size 39 5 v3 (topTo l (i + 1)).length (w5s (topTo l (i + 1))) from by
                have e1 : (topTo l (i + 1)).length = k + 1 + (out.length - k) := by rw [TN.out, List.length_append, List.length_append, LK.out, LD.out]; rfl
                have e2 : w5s (topTo l (i + 1)) = w5s (out.take k) ++ (x.cells ++ w5s (out.drop k)) := by rw [TN.out, w5s_app, w5s_app]; simp [w5s]
                rw [e1, e2]
                exact own_lower hown3 BWW.out.size)
              clear hown3 hg3
              go_wp2_with fail
              go_roundg (l.length - (i + 1))
              case rel => exact ⟨i + 1, by go_num, Nat.le_refl _, hlt, below_tr BWW.out B3.out, O3.out⟩
              case measure => have := HM.out; omega
        · have h4 : decide ((k : Int) < (out.length : Int)) = false := by simpa using hkl
          have EX := Lib.hid (show ∀ y, out[k]? = some y → befW l x y = false from fun y' hy' => by
            rw [List.getElem?_eq_none (by omega)] at hy'; cases hy')
          go_wp2_with fail
          refine wp_region_mono (by kernel_rfl) (by kernel_rfl) ?_
          simp only [List.map_cons, List.map_nil]
          repeat (first
            | (apply wpM_is
               · (intro us W hW hg K hK
                  clear hg
                  simp only [fillA]
                  go_simp
                  first
                  | exact hK _ (Below.refl _ _))
               simp only [setD, List.set_cons_zero, List.set_cons_succ]))
          intro us W hW hg
          simp only [fillA]
          clear hg
          have BW := Lib.hid (below_tr BS.out hW)
          have BWW := Lib.hid (below_tr BR.out BW.out)
          have WOW := Lib.hid (WO.out.below BW.out)
          have KXW := Lib.hid (KX.out.below BW.out)
          obtain ⟨T1, T2⟩ := while_take HP.out EX.out
          have TN := Lib.hid (show topTo l (i + 1) = out.take k ++ [x] ++ out.drop k by rw [TS.out]; unfold insW; rw [T1, T2])
          have hkc : k ≤ oc := by obtain ⟨_, _, e, h1, _⟩ := WOW.out; simp only [Value.slice.injEq] at e; omega
          have SL1 := wsl_take oo out.length oc k hkc
          obtain ⟨so, hso⟩ : ∃ so, so = if oc = k then oo else oo.map (·.add (k * 5)) := ⟨_, rfl⟩
          have SL2 : ∀ W, (Instr.slice 22 (.slice oo out.length oc) (some (.int .i64 (k : Int))) none none).run Try.prog W = .ok (.slice so (out.length - k) (oc - k)) W := fun W => by rw [wsl_from oo out.length oc k hk W, hso]; rfl
          have WD := Lib.hid (show WRow W (out.drop k) (.slice so (out.length - k) (oc - k)) by rw [hso]; exact WOW.out.drop k hk)
          have WT := Lib.hid (WOW.out.take k hk)
          have lk : (out.take k).length = k := by rw [List.length_take]; omega
          have ld : (out.drop k).length = out.length - k := List.length_drop ..
          have LK := Lib.hid lk
          have LD := Lib.hid ld
          have E0 := Lib.hid (show (W.alloc (.cells #[] 39)).ownsRow W.heap.size 39 5 (.slice (some ⟨W.heap.size, 0, none⟩) 0 0) 0 [] from ⟨by simp, .inr ⟨W.heap.size, 0, #[], rfl, Nat.le_refl _, heap_alloc_new W _, Nat.le_refl _, Nat.zero_le _, by simp, by simp⟩⟩)
          have BE := Lib.hid (below_al (Below.refl W.heap.size W) (.cells #[] 39))
          obtain ⟨S1, S2⟩ := (WT.out.below BE.out).src
          have s1 := Lib.hid S1
          have s2 := Lib.hid S2
          clear T1 T2 hso lk ld S1 S2 hW
          go_wp2_with (at_builtin; refine wpList_append_any _ rfl _ _ 22 rfl W.heap.size 39 i0 _ 5 56 Try.underlying22 hi0 hz0 hz1 hz2 rfl (by decide) (.slice (some ⟨W.heap.size, 0, none⟩) 0 0) 0 [] rfl E0.out oo k oc (w5s (out.take k)) rfl (by rw [w5s_len, LK.out]) s1.out s2.out (w5s_one _) (by unfold maxLen; omega) (by omega) (by simp) ?_)
          intro v1 w1 hown1 hg1
          have B1 := Lib.hid (below_grown' BE.out hg1 (fun q hq => by have h := (World.ownsRow.lt E0.out q hq).1; omega))
          have O1 := Lib.hid (show w1.ownsRow W.heap.size 39 5 v1 k (w5s (out.take k)) by first | exact hown1 | (rw [Nat.zero_add] at hown1; exact hown1) | simpa using hown1)
          obtain ⟨p0, p1, p2, p3, p4⟩ := KXW.out.below B1.out
          have hi63 : (0 : Int) ≤ (i : Int) := by omega
          have BN := Lib.hid (below_al (Below.refl w1.heap.size w1) (.cells #[.string x.name, .string x.parent, .int .i64 x.lim.c, .int .i64 x.lim.m, .int .i64 x.lim.p] 39))
          have NW := Lib.hid (news_new w1 #[.string x.name, .string x.parent, .int .i64 x.lim.c, .int .i64 x.lim.m, .int .i64 x.lim.p] 39)
          have h9 := O1.out.alloc (.cells #[.string x.name, .string x.parent, .int .i64 x.lim.c, .int .i64 x.lim.m, .int .i64 x.lim.p] 39)
          have O1a := Lib.hid h9
          have S1z := Lib.hid B1.out.size
          clear hown1 hg1 s1 s2 h9 E0 BE
          go_wp2_with (at_builtin; refine wpList_append_any _ rfl _ _ 22 rfl W.heap.size 39 i0 _ 5 56 Try.underlying22 hi0 hz0 hz1 hz2 rfl (by decide) v1 k (w5s (out.take k)) rfl O1a.out (some ⟨w1.heap.size, 0, none⟩) 1 1 x.cells rfl (by rfl) (fun h => by cases h) (fun ad had j u hj => by cases had; exact NW.out j u hj) (by intro u hu; simp only [W5.cells, List.mem_cons, List.not_mem_nil, or_false] at hu; rcases hu with rfl | rfl | rfl | rfl | rfl <;> rfl) (by unfold maxLen; omega) (by omega) (by have := S1z.out; simp; omega) ?_)
          intro v2 w2 hown2 hg2
          have B2 := Lib.hid (below_grown' (below_tr B1.out BN.out) hg2 (fun q hq => by have h := (World.ownsRow.lt O1a.out q hq).1; omega))
          have O2 := Lib.hid (show w2.ownsRow W.heap.size 39 5 v2 (k + 1) (w5s (out.take k) ++ x.cells) from hown2)
          obtain ⟨S1, S2⟩ := (WD.out.below B2.out).src
          have s1 := Lib.hid S1
          have s2 := Lib.hid S2
          have S2z := Lib.hid B2.out.size
          clear hown2 hg2 S1 S2 p0 p1 p2 p3 p4 O1 O1a B1 BN NW
          go_wp2_with (at_builtin; refine wpList_append_any _ rfl _ _ 22 rfl W.heap.size 39 i0 _ 5 56 Try.underlying22 hi0 hz0 hz1 hz2 rfl (by decide) v2 (k + 1) (w5s (out.take k) ++ x.cells) rfl O2.out so (out.length - k) (oc - k) (w5s (out.drop k)) rfl (by rw [w5s_len, LD.out]) s1.out s2.out (w5s_one _) (by unfold maxLen; omega) (by omega) S2z.out ?_)
          intro v3 w3 hown3 hg3
          have B3 := Lib.hid (below_grown' B2.out hg3 (fun q hq => by have h := (World.ownsRow.lt O2.out q hq).1; omega))
          have O3 := Lib.hid (show w3.ownsRow w.heap.size 39 5 v3 (topTo l (i + 1)).length (w5s (topTo l (i + 1))) from by
            have e1 : (topTo l (i + 1)).length = k + 1 + (out.length - k) := by rw [TN.out, List.length_append, List.length_append, LK.out, LD.out]; rfl
            have e2 : w5s (topTo l (i + 1)) = w5s (out.take k) ++ (x.cells ++ w5s (out.drop k)) := by rw [TN.out, w5s_app, w5s_app]; simp [w5s]
            rw [e1, e2]
            exact own_lower hown3 BWW.out.size)
          clear hown3 hg3
          go_wp2_with fail
          go_roundg (l.length - (i + 1))
          case rel => exact ⟨i + 1, by go_num, Nat.le_refl _, hlt, below_tr BWW.out B3.out, O3.out⟩
          case measure => have := HM.out; omega
    · obtain rfl : i = l.length := by omega
      have TA := Lib.hid (topTo_all l)
      go_wp2_with fail
      go_ret
      exact ⟨_, rfl, BR.out, by rw [← TA.out]; exact OW.out⟩
end
end Go.Proofs.Ytmiadhcmhnjmfaa
