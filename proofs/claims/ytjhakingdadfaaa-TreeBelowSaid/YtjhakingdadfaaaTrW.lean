/- The laws of package tree: sums. -/
import Derived.Test.YtjhakingdadfaaaTrV
namespace Go.Proofs.Ytjhakingdadfaaa
open Go.RowKit
set_option linter.unusedVariables false
set_option linter.unusedSimpArgs false
theorem nats_of {xs : List Int} (h : ∀ x ∈ xs, 0 ≤ x ∧ x ≤ 255) : ∃ ns : List Nat, xs = ns.map (fun n : Nat => (n : Int)) ∧ ∀ x ∈ ns, x ≤ 255 := by
  refine ⟨xs.map Int.toNat, ?_, fun x hx => ?_⟩
  · rw [List.map_map]
    conv => lhs; rw [← List.map_id xs]
    refine List.map_congr_left fun x hx => ?_
    have := h x hx
    show x = ((x.toNat : Nat) : Int)
    omega
  · obtain ⟨y, hy, rfl⟩ := List.mem_map.1 hx
    have := h y hy; omega
theorem name_24 {s : ByteArray} (h : nameB s = true) : s.size ≤ 24 := by
  rw [nameB_size, Bool.and_eq_true, decide_eq_true_eq, decide_eq_true_eq] at h
  exact h.2
theorem RT.short {l : List I12} (h : RT l) : ∀ u ∈ l, u.name.size ≤ 1000000 ∧ u.parent.size ≤ 1000000 := by
  intro u hu
  obtain ⟨g1, -, -, g4, -⟩ := one_iff.1 (h.one u hu)
  refine ⟨by have := name_24 g1; omega, ?_⟩
  rcases g4 with e | ⟨y, hy, e⟩
  · rw [e]; decide
  · rw [← e]
    obtain ⟨k1, -⟩ := one_iff.1 (h.one y hy)
    have := name_24 k1; omega
theorem sumF_app (f : I12 → V3) (a b : List I12) : sumF f (a ++ b) = addV (sumF f a) (sumF f b) := by
  induction a with
  | nil => exact (z_addV _).symm
  | cons x r ih => rw [List.cons_append, sumF, sumF, ih, addV_assoc]
theorem sumF_step {f : I12 → V3} {l : List I12} {k : Nat} {x : I12} (hx : l[k]? = some x) : sumF f (l.take (k + 1)) = addV (sumF f (l.take k)) (f x) := by
  rw [List.take_add_one, hx, sumF_app]
  simp only [Option.toList_some, sumF, addV_z]
theorem kidS_step {s : ByteArray} {l : List I12} {k : Nat} {x : I12} (hx : l[k]? = some x) : kidS (l.take (k + 1)) s = if x.parent = s then addV (kidS (l.take k) s) x.sub else kidS (l.take k) s := by
  rw [List.take_add_one, hx, kid_app]
  simp only [Option.toList_some, kidS]
  split
  · rw [addV_z]
  · rw [addV_z]
theorem sumF_up {l : List I12} (h : ∀ y ∈ l, mayV y.own = true) : ∀ k, k ≤ l.length → (sumF (fun x => x.own) (l.take k)).Upto ((k : Int) * 1099511627776)
  | 0, _ => by simp [sumF, V3.Upto, z3]
  | k + 1, hk => by
    have ih := sumF_up h k (by omega)
    have hx := List.getElem?_eq_getElem (show k < l.length by omega)
    have hb := may_bounds (h _ (List.getElem_mem (show k < l.length by omega)))
    rw [sumF_step hx]
    unfold V3.Upto addV at *
    simp only
    omega
theorem kidS_up {s : ByteArray} {l : List I12} (h : ∀ y ∈ l, mayV y.sub = true) : ∀ k, k ≤ l.length → (kidS (l.take k) s).Upto ((k : Int) * 1099511627776)
  | 0, _ => by simp [kidS, V3.Upto, z3]
  | k + 1, hk => by
    have ih := kidS_up (s := s) h k (by omega)
    have hx := List.getElem?_eq_getElem (show k < l.length by omega)
    have hb := may_bounds (h _ (List.getElem_mem (show k < l.length by omega)))
    rw [kidS_step hx]
    split
    · unfold V3.Upto addV at *
      simp only
      omega
    · unfold V3.Upto at *
      omega
section
variable (w : World)
set_option maxHeartbeats 16000000 in
set_option maxRecDepth 100000 in
theorem law_treesums (ns : List Nat) (nv : Value) (h : NumsRd .u8 w nv (ns.map fun n : Nat => (n : Int))) (hr : ∀ x ∈ ns, x ≤ 255) (hmx : ns.length ≤ maxLen) : Calls Try.prog 5 #[nv] w (Made (.bool true) w) := by
  have AW := Lib.hid (fun W => law_awake12 W)
  have HN := Lib.hid h
  have HRR := Lib.hid hr
  obtain ⟨ao, cap, rfl, hat⟩ := h
  rw [List.length_map] at *
  clear hat hr
  unfold maxLen at hmx
  by_cases hbig : 90 < ns.length
  · have y0 : (90 : Int) < (ns.length : Int) := by omega
    go_enter Try.func5, Try.ntmps5
    go_wp2_with fail
    with_reducible refine (AW.out _).mono ?_
    rintro e w1 ⟨rfl, hb⟩
    have B1 := Lib.hid hb
    clear hb
    go_wp2_with fail
    go_ret
    exact ⟨rfl, B1.out⟩
  · have y0 : (ns.length : Int) ≤ 90 := by omega
    have MK := Lib.hid (lmakeT w ns (.slice ao ns.length cap) (by simpa using HN.out) HRR.out (by omega))
    have MR := Lib.hid (make_right ns [] RT.nil (Nat.zero_le _))
    generalize makeT ns [] = l at *
    have RR := Lib.hid MR.out.1
    have PR := Lib.hid (fun W lv (hi : IRow W l lv) => pright W l lv hi RR.out.short true (iff_of_true rfl (right_iff.2 RR.out)))
    have hl24 : l.length ≤ 24 := MR.out.2
    go_enter Try.func5, Try.ntmps5
    go_wp2_with fail
    with_reducible refine MK.out.mono ?_
    rintro e w1 ⟨lv, rfl, hb1, ho1⟩
    have B1 := Lib.hid hb1
    have W1 := Lib.hid (irow_of_own ho1)
    obtain ⟨lo, lc, rfl⟩ := W1.out.shape
    clear hb1 ho1
    go_wp2_with fail
    with_reducible refine (PR.out _ _ W1.out).mono ?_
    rintro e w2 ⟨rfl, hb⟩
    have B2 := Lib.hid (below_tr B1.out hb)
    have W2 := Lib.hid (W1.out.below hb)
    clear hb
    -- GEN
    have BT := Lib.hid (below_al (below_al (Below.refl w2.heap.size w2) (.cells #[.int .i64 0, .int .i64 0, .int .i64 0] 30)) (.cells #[.int .i64 0, .int .i64 0, .int .i64 0] 30))
    have S0 := Lib.hid (show CBlk ((w2.alloc (.cells #[.int .i64 0, .int .i64 0, .int .i64 0] 30)).alloc (.cells #[.int .i64 0, .int .i64 0, .int .i64 0] 30)) w2.heap.size z3 from (CBlk.new w2 z3).al _)
    have S1 := Lib.hid (show CBlk ((w2.alloc (.cells #[.int .i64 0, .int .i64 0, .int .i64 0] 30)).alloc (.cells #[.int .i64 0, .int .i64 0, .int .i64 0] 30)) (w2.heap.size + 1) z3 from heap_at (by simp))
    have OM := Lib.hid (show ∀ y ∈ l, mayV y.own = true from fun y hy => (one_iff.1 (RR.out.one y hy)).2.2.1)
    have UPW := Lib.hid (fun W lv (hi : IRow W l lv) s => pUp W l lv hi (by omega) RR.out.srt s)
    have DPW := Lib.hid (fun W lv (hi : IRow W l lv) s => pDepth W l lv hi (by omega) RR.out.srt s)
    have FDW := Lib.hid (fun W lv (hi : IRow W l lv) s => pFind W l lv hi (by omega) RR.out.srt s)
    go_wp2_with fail
    have SZ2 := Lib.hid B2.out.size
    generalize hbo : w2.heap.size = bo at *
    generalize (w2.alloc (.cells #[.int .i64 0, .int .i64 0, .int .i64 0] 30)).alloc (.cells #[.int .i64 0, .int .i64 0, .int .i64 0] 30) = w3 at *
    have HBO := Lib.hid hbo
    clear hbo
    go_loopg [6] l.length (fun m iv wr => ∃ k : Nat, iv = .int .i64 (k : Int) ∧ l.length - k ≤ m ∧ k ≤ l.length ∧ Below bo w2 wr ∧ CBlk wr bo (sumF (fun x => x.own) (l.take k)) ∧ CBlk wr (bo + 1) (kidS (l.take k) ⟨#[]⟩))
    case atStart => exact ⟨0, rfl, Nat.le_refl _, Nat.zero_le _, BT.out, S0.out, S1.out⟩
    case round =>
      obtain ⟨k, rfl, hm, hk, hb, hc1, hc2⟩ := hrel
      have HM := Lib.hid hm
      have BR := Lib.hid hb
      have CO := Lib.hid hc1
      have CT := Lib.hid hc2
      clear hm hb hc1 hc2
      have BW2 := Lib.hid (show Below w2.heap.size w2 wr from by rw [HBO.out]; exact BR.out)
      have WR := Lib.hid (W2.out.below BW2.out)
      by_cases hlt : k < l.length
      · obtain ⟨x, hx⟩ : ∃ x, l[k]? = some x := ⟨_, List.getElem?_eq_getElem hlt⟩
        have HX := Lib.hid hx
        have xm := List.mem_of_getElem? hx
        have XM := Lib.hid xm
        obtain ⟨_, _, e8, -, -, hat8⟩ := WR.out
        simp only [Value.slice.injEq, true_and] at e8
        obtain ⟨rfl, rfl⟩ := e8
        obtain ⟨gl, ol, rfl, hc8⟩ := hat8 k x hx
        have AT := Lib.hid hc8
        obtain ⟨gne, XA2⟩ : gl < bo ∧ I12At w2 gl (ol + k * 12) x := by
          obtain ⟨_, _, e9, _, _, h9⟩ := W2.out
          simp only [Value.slice.injEq, true_and] at e9
          obtain ⟨rfl, rfl⟩ := e9
          obtain ⟨_, _, e10, h10⟩ := h9 k x HX.out
          cases e10
          have := World.block_lt_of_cell? _ _ h10.c0
          rw [HBO.out] at this
          exact ⟨this, h10⟩
        have XAT := Lib.hid (show ∀ V, Below bo w2 V → I12At V gl (ol + k * 12) x from fun V hV => XA2.below (by rw [HBO.out]; exact hV))
        have XIR := Lib.hid (show ∀ V, Below bo w2 V → IRow V l (.slice (some ⟨gl, ol, none⟩) l.length lc) from fun V hV => W2.out.below (by rw [HBO.out]; exact hV))
        obtain ⟨pe, hpe⟩ : ∃ pe, pe = decide (x.parent = ⟨#[]⟩) := ⟨_, rfl⟩
        have PEE := Lib.hid (show x.parent.toList.isEmpty = pe from by rw [hpe]; exact tstr_empty _)
        have EKP := Lib.hid (kidS_step (s := ⟨#[]⟩) hx)
        replace hpe := Lib.hid hpe
        clear XA2
        obtain ⟨k0, k1, k2, k3, k4, k5, k6, k7, k8, k9, k10, k11⟩ := AT.out
        have y0 : (0 : Int) ≤ (k : Int) := by omega
        have y1 : (k : Int) < (l.length : Int) := by omega
        have ES := Lib.hid (sumF_step (f := fun x => x.own) hx)
        have EK := Lib.hid (kidS_step (s := ⟨#[]⟩) hx)
        have US := Lib.hid (sumF_up OM.out k hk)
        have UK := Lib.hid (kidS_up (s := ⟨#[]⟩) RR.out.may k hk)
        have XO := Lib.hid (may_bounds (OM.out x xm))
        have XS := Lib.hid (may_bounds (RR.out.may x xm))
        obtain ⟨s0, hs0⟩ : ∃ s0, s0 = sumF (fun x => x.own) (l.take k) := ⟨_, rfl⟩
        obtain ⟨p0, hp0⟩ : ∃ p0, p0 = kidS (l.take k) ⟨#[]⟩ := ⟨_, rfl⟩
        rw [← hs0] at ES US CO
        rw [← hp0] at EK UK CT
        have AD := Lib.hid (fun W => radd2_any W s0 x.own (by
          have := US.out; have := XO.out
          unfold V3.Upto at *; unfold V3.I addV; simp only; omega))
        have AT2 := Lib.hid (fun W => radd2_any W p0 x.sub (by
          have := UK.out; have := XS.out
          unfold V3.Upto at *; unfold V3.I addV; simp only; omega))
        obtain ⟨s1, hs1⟩ : ∃ s1, s1 = addV s0 x.own := ⟨_, rfl⟩
        obtain ⟨p1, hp1⟩ : ∃ p1, p1 = addV p0 x.sub := ⟨_, rfl⟩
        simp only [← hs1] at AD ES
        simp only [← hp1] at AT2 EK
        obtain ⟨t0, t1, t2, tl⟩ := CO.out.cells
        clear hx xm hc8 hat8 hs0 hp0 hs1 hp1 US UK XO XS
        go_wp2_with fail
        refine wp_region_mono_tail 7 (by kernel_rfl) (by kernel_rfl) (Nat.le_of_ble_eq_true (by kernel_rfl)) (by kernel_rfl) ?_
        simp only [List.map_cons, List.map_nil]
        simp only [List.take_succ_cons, List.take_zero, List.drop_succ_cons, List.drop_zero]
        repeat (first
          | (apply wpM_is
             · (intro us W hW hg K hK
                clear hg
                have d0 := hold hW t0
                have d1 := hold hW t1
                have d2 := hold hW t2
                have d3 := hold hW k5
                have d4 := hold hW k6
                have d5 := hold hW k7
                simp only [fillA]
                go_simp
                first
                | exact hK _ (Below.refl _ _)
                | ((with_reducible refine (AD.out _).mono ?_); rintro e w' ⟨rfl, hb⟩; exact hK _ hb))
             simp only [setD, List.set_cons_zero, List.set_cons_succ]))
        intro us W hW hg
        simp only [fillA]
        clear hg
        have BW := Lib.hid (show Below bo w2 W from BR.out.trans (hW.mono (by have := BW2.out.size; have := HBO.out; omega)))
        have TW := Lib.hid (CO.out.below hW)
        have PW := Lib.hid (CT.out.below hW)
        have AW2 := Lib.hid (AT.out.below hW)
        obtain ⟨e0, e1, e2, el⟩ := TW.out.cells
        have f0 := TW.out.free 0
        have f1 := TW.out.free 1
        have f2 := TW.out.free 2
        clear hW t0 t1 t2 tl k0 k1 k2 k3 k4 k5 k6 k7 k8 k9 k10 k11
        obtain ⟨W', hW'⟩ : ∃ W', W' = ((W.setCell ⟨bo, 0, none⟩ (.int .i64 s1.c)).setCell ⟨bo, 1, none⟩ (.int .i64 s1.m)).setCell ⟨bo, 2, none⟩ (.int .i64 s1.p) := ⟨_, rfl⟩
        have BX := Lib.hid (show Below bo w2 W' from by rw [hW']; exact below_set3 BW.out (Nat.le_refl _) _ _ _)
        have TX := Lib.hid (show CBlk W' bo s1 from by rw [hW']; exact TW.out.set s1)
        have PX := Lib.hid (show CBlk W' (bo + 1) p0 from by rw [hW']; exact PW.out.far (by omega) _ _ _)
        go_upto_region 11 with fail
        rw [← hW']
        have HWW := Lib.hid hW'
        clear hW' e0 e1 e2 el f0 f1 f2
        obtain ⟨k0, k1, k2, k3, k4, k5, k6, k7, k8, k9, k10, k11⟩ := XAT.out W' BX.out
        have pee := PEE.out
        go_upto_if 37 with fail
        clear pee
        go_cut [] (fun wx => Below bo w2 wx ∧ CBlk wx bo s1 ∧ CBlk wx (bo + 1) (kidS (l.take (k + 1)) ⟨#[]⟩))
        case first =>
          cases pe with
          | false =>
            have EK2 := Lib.hid (show kidS (l.take (k + 1)) ⟨#[]⟩ = p0 from by rw [EK.out, if_neg (of_decide_eq_false hpe.out.symm)])
            go_wp2_with fail
            go_meet
            case rel => exact ⟨BX.out, TX.out, by rw [EK2.out]; exact PX.out⟩
          | true =>
            have EK2 := Lib.hid (show kidS (l.take (k + 1)) ⟨#[]⟩ = p1 from by rw [EK.out, if_pos (of_decide_eq_true hpe.out.symm)])
            obtain ⟨t0, t1, t2, tl⟩ := PX.out.cells
            go_wp2_with fail
            refine wp_region_mono_tail 7 (by kernel_rfl) (by kernel_rfl) (Nat.le_of_ble_eq_true (by kernel_rfl)) (by kernel_rfl) ?_
            simp only [List.map_cons, List.map_nil]
            simp only [List.take_succ_cons, List.take_zero, List.drop_succ_cons, List.drop_zero]
            repeat (first
              | (apply wpM_is
                 · (intro us W hW hg K hK
                    clear hg
                    have d0 := hold hW t0
                    have d1 := hold hW t1
                    have d2 := hold hW t2
                    have d3 := hold hW k8
                    have d4 := hold hW k9
                    have d5 := hold hW k10
                    simp only [fillA]
                    go_simp
                    first
                    | exact hK _ (Below.refl _ _)
                    | ((with_reducible refine (AT2.out _).mono ?_); rintro e w' ⟨rfl, hb⟩; exact hK _ hb))
                 simp only [setD, List.set_cons_zero, List.set_cons_succ]))
            intro us V hV hg
            simp only [fillA]
            clear hg
            have BV := Lib.hid (show Below bo w2 V from BX.out.trans (hV.mono (by have := BX.out.size; have := HBO.out; omega)))
            have TV := Lib.hid (TX.out.below hV)
            have PV := Lib.hid (PX.out.below hV)
            obtain ⟨e0, e1, e2, el⟩ := PV.out.cells
            have f0 := PV.out.free 0
            have f1 := PV.out.free 1
            have f2 := PV.out.free 2
            clear hV t0 t1 t2 tl k0 k1 k2 k3 k4 k5 k6 k7 k8 k9 k10 k11
            go_wp2_with fail
            go_meet
            case rel => exact ⟨below_set3 BV.out (by omega) _ _ _, TV.out.far (by omega) _ _ _, by rw [EK2.out]; exact PV.out.set p1⟩
        case rest =>
        obtain ⟨hxb, hx1, hx2⟩ := hcut
        have BC := Lib.hid hxb
        have CO2 := Lib.hid hx1
        have CT2 := Lib.hid hx2
        clear hxb hx1 hx2 k0 k1 k2 k3 k4 k5 k6 k7 k8 k9 k10 k11
        have UPC := Lib.hid (UPW.out wc _ (XIR.out wc BC.out) x.name)
        have e1 := up_same (RR.out.up x.name)
        rw [e1] at UPC
        clear e1
        obtain ⟨k0, k1, k2, k3, k4, k5, k6, k7, k8, k9, k10, k11⟩ := XAT.out wc BC.out
        go_wp2_with fail
        with_reducible refine UPC.out.mono ?_
        rintro e w5 ⟨uv, rfl, hb5, ho5⟩
        have B5 := Lib.hid (show Below bo w2 w5 from BC.out.trans (hb5.mono (by have := BC.out.size; have := HBO.out; omega)))
        have CO5 := Lib.hid (CO2.out.below hb5)
        have CT5 := Lib.hid (CT2.out.below hb5)
        have O5 := Lib.hid ho5
        obtain ⟨uo, uc, rfl⟩ := ho5.shape
        have UH := Lib.hid (up_head RR.out XM.out)
        have UA := Lib.hid (fun t (ht : t ∈ upI l x.name) => own_up RR.out XM.out ht)
        have ULN := Lib.hid (show (upI l x.name).length ≤ 24 from by have := RR.out.up x.name; omega)
        have DPT := Lib.hid (fun V (hV : Below bo w2 V) => DPW.out V _ (XIR.out V hV) x.name)
        have e1 := up_same (RR.out.up x.name)
        simp only [e1] at DPT
        clear e1 hb5 ho5 k0 k1 k2 k3 k4 k5 k6 k7 k8 k9 k10 k11
        generalize upI l x.name = ups at *
        have ul24 : ups.length ≤ 24 := ULN.out
        go_wp2_with fail
        go_loopg [8] ups.length (fun m jv ws => ∃ jj : Nat, jv = .int .i64 (jj : Int) ∧ ups.length - jj ≤ m ∧ jj ≤ ups.length ∧ Below bo w2 ws ∧ CBlk ws bo s1 ∧ CBlk ws (bo + 1) (kidS (l.take (k + 1)) ⟨#[]⟩) ∧ StrsO ws wc.heap.size (.slice uo ups.length uc) ups)
        case atStart => exact ⟨0, rfl, Nat.le_refl _, Nat.zero_le _, B5.out, CO5.out, CT5.out, O5.out⟩
        case round =>
          obtain ⟨jj, rfl, hm2, hj2, hb2, hd1, hd2, ho2⟩ := hrel
          have HM2 := Lib.hid hm2
          have BS := Lib.hid hb2
          have D1 := Lib.hid hd1
          have D2 := Lib.hid hd2
          have OS := Lib.hid ho2
          clear hm2 hb2 hd1 hd2 ho2
          by_cases hjl : jj < ups.length
          · obtain ⟨t, ht⟩ : ∃ t, ups[jj]? = some t := ⟨_, List.getElem?_eq_getElem hjl⟩
            obtain ⟨j, y, hij, hy, hle⟩ := UA.out t (List.mem_of_getElem? ht)
            obtain ⟨ub, rfl, u0⟩ := OS.out.cell ht
            have FN := Lib.hid (FDW.out wr _ (XIR.out wr BS.out) t)
            have FE : findI l t = (j : Int) := by unfold findI; rw [hij]
            rw [FE] at FN
            have hjl2 : j < l.length := (List.getElem?_eq_some_iff.1 hy).1
            have z0 : ¬ (j : Int) < 0 := by omega
            have z1 : (0 : Int) ≤ (j : Int) := by omega
            have z2 : (j : Int) < (l.length : Int) := by omega
            have z3' : (0 : Int) ≤ (jj : Int) := by omega
            have z4 : (jj : Int) < (ups.length : Int) := by omega
            have LE := Lib.hid (fun W => rle_any W x.own y.lim)
            rw [hle] at LE
            have YAT := Lib.hid (show ∀ V, Below bo w2 V → I12At V gl (ol + j * 12) y from fun V hV => by
              obtain ⟨_, _, e9, _, _, h9⟩ := XIR.out V hV
              simp only [Value.slice.injEq, true_and] at e9
              obtain ⟨rfl, rfl⟩ := e9
              obtain ⟨_, _, e10, h10⟩ := h9 j y hy
              cases e10
              exact h10)
            clear ht hij hy hle FE
            go_wp2_with fail
            with_reducible refine FN.out.mono ?_
            rintro e w6 ⟨rfl, hb6⟩
            have B6 := Lib.hid (show Below bo w2 w6 from BS.out.trans (hb6.mono (by have := BS.out.size; have := HBO.out; omega)))
            have D16 := Lib.hid (D1.out.below hb6)
            have D26 := Lib.hid (D2.out.below hb6)
            have O6 := Lib.hid (OS.out.below hb6)
            obtain ⟨k0, k1, k2, k3, k4, k5, k6, k7, k8, k9, k10, k11⟩ := XAT.out w6 B6.out
            obtain ⟨m0, m1, m2, m3, m4, m5, m6, m7, m8, m9, m10, m11⟩ := YAT.out w6 B6.out
            clear hb6 u0
            go_wp2_with fail
            refine wp_region_mono (by kernel_rfl) (by kernel_rfl) ?_
            simp only [List.map_cons, List.map_nil]
            repeat (first
              | (apply wpM_is
                 · (intro us W hW hg K hK
                    clear hg
                    have d0 := hold hW k5
                    have d1 := hold hW k6
                    have d2 := hold hW k7
                    have d3 := hold hW m2
                    have d4 := hold hW m3
                    have d5 := hold hW m4
                    simp only [fillA]
                    go_simp
                    first
                    | exact hK _ (Below.refl _ _)
                    | ((with_reducible refine (LE.out _).mono ?_); rintro e w' ⟨rfl, hb⟩; exact hK _ hb))
                 simp only [setD, List.set_cons_zero, List.set_cons_succ]))
            intro us V hV hg
            simp only [fillA]
            clear hg
            have B7 := Lib.hid (show Below bo w2 V from B6.out.trans (hV.mono (by have := B6.out.size; have := HBO.out; omega)))
            have D17 := Lib.hid (D16.out.below hV)
            have D27 := Lib.hid (D26.out.below hV)
            have O7 := Lib.hid (O6.out.below hV)
            clear hV k0 k1 k2 k3 k4 k5 k6 k7 k8 k9 k10 k11 m0 m1 m2 m3 m4 m5 m6 m7 m8 m9 m10 m11
            go_wp2_with fail
            go_roundg (ups.length - (jj + 1))
            case rel => exact ⟨jj + 1, by go_num, Nat.le_refl _, hjl, B7.out, D17.out, D27.out, O7.out⟩
            case measure => have := HM2.out; omega
          · obtain rfl : jj = ups.length := by omega
            obtain ⟨r, hr⟩ := UH.out
            have upos : 0 < ups.length := by rw [hr]; simp
            have h0 : ups[0]? = some x.name := by rw [hr]; rfl
            obtain ⟨ub, rfl, u0⟩ := OS.out.cell h0
            have upz : (0 : Int) < (ups.length : Int) := by omega
            have unz : ((ups.length : Int) == 0) = false := beq_false_of_ne (by omega)
            have DN2 := Lib.hid (fun W (hW : Below wr.heap.size wr W) => DPT.out W (BS.out.trans (hW.mono (by have := BS.out.size; have := HBO.out; omega))))
            obtain ⟨k0, k1, k2, k3, k4, k5, k6, k7, k8, k9, k10, k11⟩ := XAT.out wr BS.out
            clear h0 hr
            go_wp2_with fail
            refine wp_region_mono (by kernel_rfl) (by kernel_rfl) ?_
            simp only [List.map_cons, List.map_nil]
            repeat (first
              | (apply wpM_is
                 · (intro us W hW hg K hK
                    clear hg
                    have d0 := hold hW k0
                    have d1 := hold hW u0
                    simp only [fillA]
                    go_simp
                    first
                    | exact hK _ (Below.refl _ _)
                    | ((with_reducible refine (DN2.out _ hW).mono ?_); rintro e w' ⟨rfl, hb⟩; exact hK _ hb))
                 simp only [setD, List.set_cons_zero, List.set_cons_succ]))
            intro us V hV hg
            simp only [fillA]
            clear hg
            have B7 := Lib.hid (show Below bo w2 V from BS.out.trans (hV.mono (by have := BS.out.size; have := HBO.out; omega)))
            have D17 := Lib.hid (show CBlk V bo (sumF (fun x => x.own) (l.take (k + 1))) from by rw [ES.out]; exact D1.out.below hV)
            have D27 := Lib.hid (D2.out.below hV)
            clear hV k0 k1 k2 k3 k4 k5 k6 k7 k8 k9 k10 k11 u0
            go_wp2_with fail
            go_roundg (l.length - (k + 1))
            case rel => exact ⟨k + 1, by go_num, Nat.le_refl _, hlt, B7.out, D17.out, D27.out⟩
            case measure => have := HM.out; omega
      · have ES := Lib.hid (own_top RR.out)
        obtain rfl : k = l.length := by omega
        rw [List.take_length] at CO CT
        rw [ES.out] at CO
        obtain ⟨t0, t1, t2, tl⟩ := CO.out.cells
        obtain ⟨q0, q1, q2, ql⟩ := CT.out.cells
        generalize kidS l ⟨#[]⟩ = sv at *
        have BF := Lib.hid (below_tr B2.out BW2.out)
        go_wp2_with fail
        with_reducible refine (AW.out _).mono ?_
        rintro e w5 ⟨rfl, hb⟩
        have B5 := Lib.hid (below_tr BF.out hb)
        clear hb
        go_wp2_with fail
        go_ret
        exact ⟨rfl, B5.out⟩
theorem law_treesumsI (xs : List Int) (nv : Value) (h : NumsRd .u8 w nv xs) (hr : ∀ x ∈ xs, 0 ≤ x ∧ x ≤ 255) (hl : xs.length ≤ maxLen) : Calls Try.prog 5 #[nv] w (Made (.bool true) w) := by
  obtain ⟨ns, rfl, h2⟩ := nats_of hr
  exact law_treesums w ns nv h h2 (by simpa using hl)
end
end Go.Proofs.Ytjhakingdadfaaa
