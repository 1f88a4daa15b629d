/- Live trees: the document's Admit, walked. -/
import Derived.Test.YtmpakgabehplbaaTrK
import Derived.Test.YtmpakgabehplbaaVecN
namespace Go.Proofs.Ytmpakgabehplbaa
open Go.RowKit
set_option linter.unusedVariables false
set_option linter.unusedSimpArgs false
section
variable (w : World)
set_option maxHeartbeats 16000000 in
set_option maxRecDepth 100000 in
theorem radmit (l : List I12) (lv : Value) (h : IRow w l lv) (hr : RT l) (s : ByteArray) (v : V3) :
    Calls Try.prog 56 #[lv, .string s, .agg #[.int .i64 v.c, .int .i64 v.m, .int .i64 v.p]] w (GrownI (admE l s v) (admL l s v) w) := by
  have H0 := Lib.hid h
  have HR := Lib.hid hr
  have hl : l.length ≤ 120 := hr.len
  obtain ⟨ao, cap, rfl⟩ := h.shape
  clear h hr
  have RU := Lib.hid (fun W (hW : Below w.heap.size w W) => rup W l (.slice ao l.length cap) (H0.out.below hW) (by omega) s)
  have ML := Lib.hid (fun W => rmay_any W v)
  have RN := Lib.hid (fun W (E : Nat) => rno W E)
  have AE := Lib.hid (show admE l s v = if mayV v = false then 1 else if upI l s = [] then 2 else if roomB l (upI l s) v = false then 12 else 0 from rfl)
  have AL := Lib.hid (show (w.alloc (.cells #[.int .i64 v.c, .int .i64 v.m, .int .i64 v.p] 24)).heap.size = w.heap.size + 1 from by show (w.heap.push _).size = _; exact Array.size_push ..)
  have B0 := Lib.hid (below_al (below_al (Below.refl w.heap.size w) (.cells #[.int .i64 v.c, .int .i64 v.m, .int .i64 v.p] 24)) (.cells #[.slice none 0 0, .int .i64 0] 38))
  have C0 := Lib.hid ((CBlk.new w v).al (.cells #[.slice none 0 0, .int .i64 0] 38))
  have G0 := Lib.hid (GBlk.new (w.alloc (.cells #[.int .i64 v.c, .int .i64 v.m, .int .i64 v.p] 24)) (.slice none 0 0) 0)
  rw [AL.out] at G0
  go_enter Try.func56, Try.ntmps56
  go_wp2_with fail
  with_reducible refine (RU.out _ B0.out).mono ?_
  rintro e1 w1 ⟨sv, rfl, h1, ho⟩
  have B1 := Lib.hid (below_tr B0.out h1)
  have G1 := Lib.hid (G0.out.below h1)
  have C1 := Lib.hid (C0.out.below h1)
  have U1 := Lib.hid (own_lower ho B0.out.size)
  obtain ⟨uo, uc, rfl⟩ := ho.shape
  have UPL := Lib.hid (HR.out.up s)
  have UPN := Lib.hid (show (upI l s).Nodup from upF_nodup (l.length + 1) s (by have := HR.out.up s; unfold upI at this; omega))
  have UPK := Lib.hid (fun t ht => up_known (l := l) (l.length + 1) s t ht)
  clear h1 ho
  obtain ⟨v0, v1, v2, v3⟩ := C1.out.cells
  go_wp2_with fail
  cases hm : mayV v with
  | false =>
    simp only [hm] at ML
    have R := Lib.hid (show admE l s v = 1 by rw [AE.out, hm]; rfl)
    clear hm AE
    with_reducible refine (ML.out _).mono ?_
    rintro e2 w2 ⟨rfl, h2⟩
    have B2 := Lib.hid (below_tr B1.out h2)
    have G2 := Lib.hid (G1.out.below h2)
    clear h2 v0 v1 v2 v3
    go_wp2_with fail
    have RE := Lib.hid (fun W => (show Calls Try.prog 50 #[.int .i64 1] W (Made (.agg #[.slice none 0 0, .int .i64 1]) W) from RN.out W 1))
    with_reducible refine (RE.out _).mono ?_
    rintro e9 w9 ⟨rfl, h9⟩
    have B9 := Lib.hid (below_tr B2.out h9)
    have G9 := Lib.hid (G2.out.below h9)
    have f0 := G9.out.free 0
    have f1 := G9.out.free 1
    obtain ⟨c0, c1⟩ := G9.out.cells
    clear h9
    go_wp2_with fail
    have GF := Lib.hid (G9.out.set (.slice none 0 0) 1)
    obtain ⟨g0, g1⟩ := GF.out.cells
    exact bodyPost_ret (v := .agg #[.slice none 0 0, .int .i64 1]) (by simp [results, Try.results56, go_sem, g0, g1]) rfl ⟨_, by rw [R.out]; rfl, below_set2 B9.out (Nat.le_succ _) _ _, by rw [R.out]; exact IOwn_nil _ _⟩
  | true =>
    simp only [hm] at ML
    have MV := Lib.hid hm
    have AE2 := Lib.hid (show admE l s v = if upI l s = [] then 2 else if roomB l (upI l s) v = false then 12 else 0 by rw [AE.out, hm]; rfl)
    clear hm AE
    with_reducible refine (ML.out _).mono ?_
    rintro e2 w2 ⟨rfl, h2⟩
    have B2 := Lib.hid (below_tr B1.out h2)
    have G2 := Lib.hid (G1.out.below h2)
    have C2 := Lib.hid (C1.out.below h2)
    have U2 := Lib.hid (StrsO.below U1.out h2)
    clear h2 v0 v1 v2 v3 B1 G1 C1 U1
    generalize hus : upI l s = us at *
    have US := Lib.hid hus
    clear hus
    by_cases hn : us.length = 0
    · have R := Lib.hid (show admE l s v = 2 by rw [AE2.out, if_pos (List.eq_nil_of_length_eq_zero hn)])
      go_wp2_with fail
      have RE := Lib.hid (fun W => (show Calls Try.prog 50 #[.int .i64 2] W (Made (.agg #[.slice none 0 0, .int .i64 2]) W) from RN.out W 2))
      with_reducible refine (RE.out _).mono ?_
      rintro e9 w9 ⟨rfl, h9⟩
      have B9 := Lib.hid (below_tr B2.out h9)
      have G9 := Lib.hid (G2.out.below h9)
      have f0 := G9.out.free 0
      have f1 := G9.out.free 1
      obtain ⟨c0, c1⟩ := G9.out.cells
      clear h9
      go_wp2_with fail
      have GF := Lib.hid (G9.out.set (.slice none 0 0) 2)
      obtain ⟨g0, g1⟩ := GF.out.cells
      exact bodyPost_ret (v := .agg #[.slice none 0 0, .int .i64 2]) (by simp [results, Try.results56, go_sem, g0, g1]) rfl ⟨_, by rw [R.out]; rfl, below_set2 B9.out (Nat.le_succ _) _ _, by rw [R.out]; exact IOwn_nil _ _⟩
    · have AE3 := Lib.hid (show admE l s v = if roomB l us v = false then 12 else 0 by rw [AE2.out, if_neg (fun e => hn (by rw [e]; rfl))])
      have ul : us.length ≤ 120 := by have := UPL.out; omega
      have up : (0 : Int) < (us.length : Int) := by omega
      have un : ¬ (us.length : Int) = 0 := by omega
      go_wp2_with fail
      have RC := Lib.hid (rcopied w2 l (.slice ao l.length cap) (H0.out.below B2.out) (by omega))
      with_reducible refine RC.out.mono ?_
      rintro e3 w3 ⟨ov, rfl, h3, o3⟩
      have B3 := Lib.hid (below_tr B2.out h3)
      have G3 := Lib.hid (G2.out.below h3)
      have C3 := Lib.hid (C2.out.below h3)
      have U3 := Lib.hid (StrsO.below U2.out h3)
      have O3 := Lib.hid (show IOwn w3 w.heap.size l ov from own_lower o3 B2.out.size)
      have LN : 0 < l.length := by have := UPL.out; omega
      obtain ⟨og, oc, rfl⟩ : ∃ g c, ov = .slice (some ⟨g, 0, none⟩) l.length c := by
        rcases o3.2 with ⟨rfl, h0⟩ | ⟨g, c, cur, rfl, -⟩
        · omega
        · exact ⟨g, c, rfl⟩
      clear h3 o3
      go_wp2_with fail
      go_loopg [9] us.length (fun m iv wr => ∃ i : Nat, iv = .int .i64 i ∧ us.length - i ≤ m ∧ i ≤ us.length ∧ Below w.heap.size w wr ∧ Hid (IOwn wr w.heap.size (l.map (admS (us.take i) v)) (.slice (some ⟨og, 0, none⟩) l.length oc)) ∧ Hid (GBlk wr (w.heap.size + 1) (.slice none 0 0) 0) ∧ Hid (CBlk wr w.heap.size v) ∧ Hid (StrsO wr w.heap.size (.slice uo us.length uc) us) ∧ Hid (∀ j, j < i → ∀ x ∈ l, us[j]? = some x.name → leV (addV x.sub v) x.lim = true))
      case atStart => exact ⟨0, rfl, Nat.le_refl _, Nat.zero_le _, B3.out, Lib.hid (by
        have e : l.map (admS (us.take 0) v) = l := by
          rw [List.take_zero]
          conv => rhs; rw [← List.map_id l]
          refine List.map_congr_left fun x hx => ?_
          unfold admS
          rw [if_neg (by simp)]; rfl
        rw [e]; exact O3.out), G3, C3, U3, Lib.hid (fun j hj => by omega)⟩
      case round =>
        obtain ⟨i, rfl, hm, hi, hb, OI, GI, CI, UI, HP⟩ := hrel
        have HM := Lib.hid hm
        have BI := Lib.hid hb
        clear hm hb
        by_cases hlt : i < us.length
        · obtain ⟨t, ht⟩ : ∃ t, us[i]? = some t := ⟨_, List.getElem?_eq_getElem hlt⟩
          have HT := Lib.hid ht
          obtain ⟨x, hx⟩ := UPK.out t (by have h := List.mem_of_getElem? ht; rw [← US.out] at h; exact h)
          obtain ⟨hxm, rfl⟩ := look_name hx
          obtain ⟨k, hki, hk⟩ := look_at hx
          have HK := Lib.hid hk
          have XM := Lib.hid hxm
          have hkl : k < l.length := (List.getElem?_eq_some_iff.1 hk).1
          have AT := Lib.hid (adm_at (l := l) (us := us) UPN.out v hk ht)
          have hcx := OI.out.at AT.out
          have FN := Lib.hid (rfind wr (l.map (admS (us.take i) v)) (.slice (some ⟨og, 0, none⟩) l.length oc) (irow_of_own OI.out) x.name)
          have FI : findI (l.map (admS (us.take i) v)) x.name = (k : Int) := by unfold findI; rw [idx_map (f := admS (us.take i) v) (fun _ => rfl), hki]
          simp only [FI] at FN
          have UC := Lib.hid UI.out
          obtain ⟨ub, hub, hc0⟩ := StrsO.cell UI.out ht
          obtain rfl := hub
          have i0 : (0 : Int) ≤ (i : Int) := by omega
          have i1 : (i : Int) < (us.length : Int) := by omega
          have k0 : (0 : Int) ≤ (k : Int) := by omega
          have k1 : (k : Int) < (l.length : Int) := by omega
          clear ht hx hxm hki hk FI
          go_wp2_with fail
          with_reducible refine FN.out.mono ?_
          rintro e4 w4 ⟨rfl, rfl⟩
          obtain ⟨s1, hs1⟩ : ∃ s1, s1 = addV x.sub v := ⟨_, rfl⟩
          have RA : Hid (∀ W, Calls Try.prog 32 #[.agg #[.int .i64 x.sub.c, .int .i64 x.sub.m, .int .i64 x.sub.p], .agg #[.int .i64 v.c, .int .i64 v.m, .int .i64 v.p]] W (Made (.agg #[.int .i64 s1.c, .int .i64 s1.m, .int .i64 s1.p]) W)) := Lib.hid (fun W => by
            rw [hs1]
            refine radd2_any W x.sub v ?_
            have h1 := may_bounds (HR.out.may x XM.out)
            have h2 := may_bounds MV.out
            unfold V3.I addV; simp only; omega)
          have S1 := Lib.hid hs1
          clear hs1
          obtain ⟨q0, q1, q2, q3, q4, q5, q6, q7, q8, q9, q10, q11⟩ := hcx
          obtain ⟨v0, v1, v2, v3⟩ := CI.out.cells
          clear hc0
          go_wp2_with fail
          refine wp_region_mono_tail 9 (by kernel_rfl) (by kernel_rfl) (Nat.le_of_ble_eq_true (by kernel_rfl)) (by kernel_rfl) ?_
          simp only [List.map_cons, List.map_nil]
          simp only [List.take_succ_cons, List.take_zero, List.drop_succ_cons, List.drop_zero]
          repeat (first
            | (apply wpM_is
               · (intro us W hW hg K hK
                  clear hg
                  have d0 := hold hW q8
                  have d1 := hold hW q9
                  have d2 := hold hW q10
                  have d3 := hold hW v0
                  have d4 := hold hW v1
                  have d5 := hold hW v2
                  simp only [fillA]
                  go_simp
                  first
                  | exact hK _ (Below.refl _ _)
                  | ((with_reducible refine (RA.out _).mono ?_); rintro e w' ⟨rfl, hb⟩; exact hK _ hb))
               simp only [setD, List.set_cons_zero, List.set_cons_succ]))
          intro us' W hW hg
          simp only [fillA]
          clear hg
          have BW := Lib.hid (below_tr BI.out hW)
          have OW := Lib.hid (show IOwn W w.heap.size (l.map (admS (us.take i) v)) (.slice (some ⟨og, 0, none⟩) l.length oc) from own_below OI.out hW)
          have GW := Lib.hid (GI.out.below hW)
          have CW := Lib.hid (CI.out.below hW)
          have UW := Lib.hid (StrsO.below UI.out hW)
          replace q8 := hold hW q8
          replace q9 := hold hW q9
          replace q10 := hold hW q10
          have fz8 := OW.out.frz (k * 12 + 8)
          have fz9 := OW.out.frz (k * 12 + 9)
          have fz10 := OW.out.frz (k * 12 + 10)
          clear hW q0 q1 q2 q3 q4 q5 q6 q7 q11 v0 v1 v2 v3
          go_wp2_with fail
          have AN := Lib.hid (adm_next HR.out.srt.uq (us := us) UPN.out v HK.out rfl HT.out)
          have O2 := Lib.hid (show IOwn (((W.setCell ⟨og, k * 12 + 8, none⟩ (.int .i64 s1.c)).setCell ⟨og, k * 12 + 8 + 1, none⟩ (.int .i64 s1.m)).setCell ⟨og, k * 12 + 8 + 2, none⟩ (.int .i64 s1.p)) w.heap.size (l.map (admS (us.take (i + 1)) v)) (.slice (some ⟨og, 0, none⟩) l.length oc) from by
            rw [← AN.out, ← S1.out]
            exact OW.out.set3 AT.out 8 (by decide) _ _ _ rfl)
          have B2' := Lib.hid (show Below w.heap.size w (((W.setCell ⟨og, k * 12 + 8, none⟩ (.int .i64 s1.c)).setCell ⟨og, k * 12 + 8 + 1, none⟩ (.int .i64 s1.m)).setCell ⟨og, k * 12 + 8 + 2, none⟩ (.int .i64 s1.p)) from ((BW.out.setCell (iblk_at OW.out).1 _).setCell (iblk_at OW.out).1 _).setCell (iblk_at OW.out).1 _)
          have G2' := Lib.hid (show GBlk (((W.setCell ⟨og, k * 12 + 8, none⟩ (.int .i64 s1.c)).setCell ⟨og, k * 12 + 8 + 1, none⟩ (.int .i64 s1.m)).setCell ⟨og, k * 12 + 8 + 2, none⟩ (.int .i64 s1.p)) (w.heap.size + 1) (.slice none 0 0) 0 from (heap_set3 W og _ _ _ _ _ _ (grown_apart OW.out GW.out)).trans GW.out)
          have C2' := Lib.hid (show CBlk (((W.setCell ⟨og, k * 12 + 8, none⟩ (.int .i64 s1.c)).setCell ⟨og, k * 12 + 8 + 1, none⟩ (.int .i64 s1.m)).setCell ⟨og, k * 12 + 8 + 2, none⟩ (.int .i64 s1.p)) w.heap.size v from (heap_set3 W og _ _ _ _ _ _ (vec_apart OW.out CW.out)).trans CW.out)
          have U2' := Lib.hid (StrsO.far3 UW.out (str_apart OW.out UW.out) (k * 12 + 8) (k * 12 + 8 + 1) (k * 12 + 8 + 2) (.int .i64 s1.c) (.int .i64 s1.m) (.int .i64 s1.p))
          have AT2 := Lib.hid (show (l.map (admS (us.take (i + 1)) v))[k]? = some ⟨x.name, x.parent, x.lim, x.own, s1, x.ver⟩ from by
            rw [S1.out]
            refine adm_at2 v HK.out ?_
            rw [List.take_add_one, HT.out]
            exact List.mem_append_right _ List.mem_cons_self)
          clear q8 q9 q10 fz8 fz9 fz10
          generalize ((W.setCell ⟨og, k * 12 + 8, none⟩ (.int .i64 s1.c)).setCell ⟨og, k * 12 + 8 + 1, none⟩ (.int .i64 s1.m)).setCell ⟨og, k * 12 + 8 + 2, none⟩ (.int .i64 s1.p) = W2 at *
          obtain ⟨q0, q1, q2, q3, q4, q5, q6, q7, q8, q9, q10, q11⟩ := O2.out.at AT2.out
          simp only at q0 q1 q2 q3 q4 q5 q6 q7 q8 q9 q10 q11
          have LE := Lib.hid (fun W => rle_any W s1 x.lim)
          cases hle : leV s1 x.lim with
          | false =>
            simp only [hle] at LE
            have R := Lib.hid (show admE l s v = 12 by
              rw [AE3.out, if_pos]
              refine Bool.eq_false_iff.2 fun e => ?_
              have h := List.all_eq_true.1 e x XM.out
              rw [← S1.out, hle] at h
              simp [List.mem_of_getElem? HT.out] at h)
            clear hle
            refine wp_region_mono (by kernel_rfl) (by kernel_rfl) ?_
            simp only [List.map_cons, List.map_nil]
            repeat (first
              | (apply wpM_is
                 · (intro us W hW hg K hK
                    clear hg
                    have d0 := hold hW q8
                    have d1 := hold hW q9
                    have d2 := hold hW q10
                    have d3 := hold hW q2
                    have d4 := hold hW q3
                    have d5 := hold hW q4
                    simp only [fillA]
                    go_simp
                    first
                    | exact hK _ (Below.refl _ _)
                    | ((with_reducible refine (LE.out _).mono ?_); rintro e w' ⟨rfl, hb⟩; exact hK _ hb))
                 simp only [setD, List.set_cons_zero, List.set_cons_succ]))
            intro us2 W3 hW hg
            simp only [fillA]
            clear hg
            have B5 := Lib.hid (below_tr B2'.out hW)
            have G5 := Lib.hid (G2'.out.below hW)
            clear hW q0 q1 q2 q3 q4 q5 q6 q7 q8 q9 q10 q11
            go_wp2_with fail
            have RE := Lib.hid (fun W => (show Calls Try.prog 50 #[.int .i64 12] W (Made (.agg #[.slice none 0 0, .int .i64 12]) W) from RN.out W 12))
            with_reducible refine (RE.out _).mono ?_
            rintro e9 w9 ⟨rfl, h9⟩
            have B9 := Lib.hid (below_tr B5.out h9)
            have G9 := Lib.hid (G5.out.below h9)
            have f0 := G9.out.free 0
            have f1 := G9.out.free 1
            obtain ⟨c0, c1⟩ := G9.out.cells
            clear h9
            go_wp2_with fail
            have GF := Lib.hid (G9.out.set (.slice none 0 0) 12)
            obtain ⟨g0, g1⟩ := GF.out.cells
            exact bodyPost_ret (v := .agg #[.slice none 0 0, .int .i64 12]) (by simp [results, Try.results56, go_sem, g0, g1]) rfl ⟨_, by rw [R.out]; rfl, below_set2 B9.out (Nat.le_succ _) _ _, by rw [R.out]; exact IOwn_nil _ _⟩
          | true =>
            simp only [hle] at LE
            have HN := Lib.hid (show ∀ j, j < i + 1 → ∀ x ∈ l, us[j]? = some x.name → leV (addV x.sub v) x.lim = true from fun j hj y hy hj2 => by
              by_cases e : j = i
              · subst e
                have e2 : x.name = y.name := Option.some.inj (HT.out.symm.trans hj2)
                obtain ⟨j2, hj2'⟩ := List.mem_iff_getElem?.1 hy
                have e3 := uq_at HR.out.srt.uq HK.out hj2' e2
                subst e3
                obtain rfl : x = y := Option.some.inj (HK.out.symm.trans hj2')
                rw [← S1.out]; exact hle
              · exact HP.out j (by omega) y hy hj2)
            clear hle
            refine wp_region_mono (by kernel_rfl) (by kernel_rfl) ?_
            simp only [List.map_cons, List.map_nil]
            repeat (first
              | (apply wpM_is
                 · (intro us W hW hg K hK
                    clear hg
                    have d0 := hold hW q8
                    have d1 := hold hW q9
                    have d2 := hold hW q10
                    have d3 := hold hW q2
                    have d4 := hold hW q3
                    have d5 := hold hW q4
                    simp only [fillA]
                    go_simp
                    first
                    | exact hK _ (Below.refl _ _)
                    | ((with_reducible refine (LE.out _).mono ?_); rintro e w' ⟨rfl, hb⟩; exact hK _ hb))
                 simp only [setD, List.set_cons_zero, List.set_cons_succ]))
            intro us2 W3 hW hg
            simp only [fillA]
            clear hg
            have B5 := Lib.hid (below_tr B2'.out hW)
            have G5 := Lib.hid (G2'.out.below hW)
            have C5 := Lib.hid (C2'.out.below hW)
            have U5 := Lib.hid (StrsO.below U2'.out hW)
            have O5 := Lib.hid (show IOwn _ w.heap.size (l.map (admS (us.take (i + 1)) v)) (.slice (some ⟨og, 0, none⟩) l.length oc) from own_below O2.out hW)
            clear hW q0 q1 q2 q3 q4 q5 q6 q7 q8 q9 q10 q11
            go_wp2_with fail
            go_roundg (us.length - (i + 1))
            case rel => exact ⟨i + 1, by go_num, Nat.le_refl _, hlt, B5.out, O5, G5, C5, U5, HN⟩
            case measure => have := HM.out; omega
        · obtain rfl : i = us.length := by omega
          rw [List.take_length] at OI
          have hge : ¬ (us.length : Int) < (us.length : Int) := by omega
          have R := Lib.hid (show admE l s v = 0 by
            rw [AE3.out, if_neg]
            rw [Bool.not_eq_false]
            refine List.all_eq_true.2 fun x hx => ?_
            by_cases hm : x.name ∈ us
            · obtain ⟨j, hj⟩ := List.mem_iff_getElem?.1 hm
              rw [HP.out j (List.getElem?_eq_some_iff.1 hj).1 x hx hj]; simp
            · simp [hm])
          obtain ⟨x, hx⟩ : ∃ x, look l s = some x := by
            cases hls : look l s with
            | some x => exact ⟨x, rfl⟩
            | none =>
              have e := US.out
              unfold upI at e
              rw [upF_lnone hls] at e
              rw [← e] at hn; exact absurd rfl hn
          have SM : s ∈ us := by
            rw [← US.out]
            unfold upI
            rw [upF_lsome hx]
            exact List.mem_cons_self
          obtain ⟨hxm, hxn⟩ := look_name hx
          obtain ⟨k, hki, hk⟩ := look_at hx
          have HK := Lib.hid hk
          have XN := Lib.hid hxn
          have SMH := Lib.hid SM
          have hkl : k < l.length := (List.getElem?_eq_some_iff.1 hk).1
          have AT := Lib.hid (adm_at2 (us := us) v hk (by rw [hxn]; exact SM))
          have FN := Lib.hid (rfind wr (l.map (admS us v)) (.slice (some ⟨og, 0, none⟩) l.length oc) (irow_of_own OI.out) s)
          have FI : findI (l.map (admS us v)) s = (k : Int) := by unfold findI; rw [idx_map (f := admS us v) (fun _ => rfl), hki]
          simp only [FI] at FN
          have k0 : (0 : Int) ≤ (k : Int) := by omega
          have k1 : (k : Int) < (l.length : Int) := by omega
          obtain ⟨s1, hs1⟩ : ∃ s1, s1 = addV x.own v := ⟨_, rfl⟩
          have RA : Hid (∀ W, Calls Try.prog 32 #[.agg #[.int .i64 x.own.c, .int .i64 x.own.m, .int .i64 x.own.p], .agg #[.int .i64 v.c, .int .i64 v.m, .int .i64 v.p]] W (Made (.agg #[.int .i64 s1.c, .int .i64 s1.m, .int .i64 s1.p]) W)) := Lib.hid (fun W => by
            rw [hs1]
            refine radd2_any W x.own v ?_
            have h1 := may_bounds (one_iff.1 (HR.out.one x hxm)).2.2.1
            have h2 := may_bounds MV.out
            unfold V3.I addV; simp only; omega)
          have S1 := Lib.hid hs1
          have hcx := OI.out.at AT.out
          clear hs1 hx hxm hxn hki hk FI SM
          go_wp2_with fail
          with_reducible refine FN.out.mono ?_
          rintro e4 w4 ⟨rfl, rfl⟩
          obtain ⟨q0, q1, q2, q3, q4, q5, q6, q7, q8, q9, q10, q11⟩ := hcx
          simp only at q0 q1 q2 q3 q4 q5 q6 q7 q8 q9 q10 q11
          obtain ⟨v0, v1, v2, v3⟩ := CI.out.cells
          go_wp2_with fail
          refine wp_region_mono_tail 9 (by kernel_rfl) (by kernel_rfl) (Nat.le_of_ble_eq_true (by kernel_rfl)) (by kernel_rfl) ?_
          simp only [List.map_cons, List.map_nil]
          simp only [List.take_succ_cons, List.take_zero, List.drop_succ_cons, List.drop_zero]
          repeat (first
            | (apply wpM_is
               · (intro us W hW hg K hK
                  clear hg
                  have d0 := hold hW q5
                  have d1 := hold hW q6
                  have d2 := hold hW q7
                  have d3 := hold hW v0
                  have d4 := hold hW v1
                  have d5 := hold hW v2
                  simp only [fillA]
                  go_simp
                  first
                  | exact hK _ (Below.refl _ _)
                  | ((with_reducible refine (RA.out _).mono ?_); rintro e w' ⟨rfl, hb⟩; exact hK _ hb))
               simp only [setD, List.set_cons_zero, List.set_cons_succ]))
          intro us' W hW hg
          simp only [fillA]
          clear hg
          have BW := Lib.hid (below_tr BI.out hW)
          have OW := Lib.hid (show IOwn W w.heap.size (l.map (admS us v)) (.slice (some ⟨og, 0, none⟩) l.length oc) from own_below OI.out hW)
          have GW := Lib.hid (GI.out.below hW)
          replace q5 := hold hW q5
          replace q6 := hold hW q6
          replace q7 := hold hW q7
          have fz5 := OW.out.frz (k * 12 + 5)
          have fz6 := OW.out.frz (k * 12 + 5 + 1)
          have fz7 := OW.out.frz (k * 12 + 5 + 2)
          have fy6 := OW.out.frz (k * 12 + 6)
          have fy7 := OW.out.frz (k * 12 + 7)
          have O2 := Lib.hid (show IOwn (((W.setCell ⟨og, k * 12 + 5, none⟩ (.int .i64 s1.c)).setCell ⟨og, k * 12 + 5 + 1, none⟩ (.int .i64 s1.m)).setCell ⟨og, k * 12 + 5 + 2, none⟩ (.int .i64 s1.p)) w.heap.size (admL l s v) (.slice (some ⟨og, 0, none⟩) l.length oc) from by
            unfold admL
            rw [US.out, ← adm_last HR.out.srt.uq v HK.out XN.out SMH.out, ← S1.out]
            exact OW.out.set3 AT.out 5 (by decide) _ _ _ rfl)
          have B2' := Lib.hid (show Below w.heap.size w (((W.setCell ⟨og, k * 12 + 5, none⟩ (.int .i64 s1.c)).setCell ⟨og, k * 12 + 5 + 1, none⟩ (.int .i64 s1.m)).setCell ⟨og, k * 12 + 5 + 2, none⟩ (.int .i64 s1.p)) from ((BW.out.setCell (iblk_at OW.out).1 _).setCell (iblk_at OW.out).1 _).setCell (iblk_at OW.out).1 _)
          have G2' := Lib.hid (show GBlk (((W.setCell ⟨og, k * 12 + 5, none⟩ (.int .i64 s1.c)).setCell ⟨og, k * 12 + 5 + 1, none⟩ (.int .i64 s1.m)).setCell ⟨og, k * 12 + 5 + 2, none⟩ (.int .i64 s1.p)) (w.heap.size + 1) (.slice none 0 0) 0 from (heap_set3 W og _ _ _ _ _ _ (grown_apart OW.out GW.out)).trans GW.out)
          have f0 := G2'.out.free 0
          have f1 := G2'.out.free 1
          obtain ⟨c0, c1⟩ := G2'.out.cells
          clear hW q0 q1 q2 q3 q4 q8 q9 q10 q11 v0 v1 v2 v3
          go_wp2_with fail
          have GF := Lib.hid (G2'.out.set (.slice (some ⟨og, 0, none⟩) l.length oc) 0)
          obtain ⟨g0, g1⟩ := GF.out.cells
          exact bodyPost_ret (v := .agg #[.slice (some ⟨og, 0, none⟩) l.length oc, .int .i64 0]) (by simp [results, Try.results56, go_sem, g0, g1]) rfl ⟨.slice (some ⟨og, 0, none⟩) l.length oc, by rw [R.out]; rfl, below_set2 B2'.out (Nat.le_succ _) _ _, by rw [R.out]; exact O2.out.far (O2.out.apart G2'.out) _ _⟩
end
end Go.Proofs.Ytmpakgabehplbaa
