/- Trees that change: the document's Move; walked. -/
import Derived.Test.YtmpakgabehplbaaShD
import Derived.Test.YtmpakgabehplbaaRmB
import Derived.Deep.DeepCutAuto
namespace Go.Proofs.Ytmpakgabehplbaa
open Go.RowKit
set_option linter.unusedVariables false
set_option linter.unusedSimpArgs false
/-- What lies in memory while a tree is changed. -/
structure MvAt (w wr : World) (L : List I12) (og oc n : Nat) (wv uv : Value) (was up : List ByteArray) : Prop where
  below : Below w.heap.size w wr
  own : IOwn wr w.heap.size L (.slice (some ⟨og, 0, none⟩) n oc)
  grown : GBlk wr w.heap.size (.slice none 0 0) 0
  was : StrsO wr w.heap.size wv was
  up : StrsO wr w.heap.size uv up
theorem MvAt.next {w wr W : World} {L : List I12} {og oc n : Nat} {wv uv : Value} {was up : List ByteArray} (M : MvAt w wr L og oc n wv uv was up) (hb : Below wr.heap.size wr W) : MvAt w W L og oc n wv uv was up :=
  ⟨below_tr M.below hb, own_below M.own hb, M.grown.below hb, StrsO.below M.was hb, StrsO.below M.up hb⟩
theorem MvAt.set3 {w W : World} {L : List I12} {og oc n : Nat} {wv uv : Value} {was up : List ByteArray} (M : MvAt w W L og oc n wv uv was up) {k : Nat} {x y : I12} (hk : L[k]? = some x) (r : Nat) (hr : r + 2 < 12) (a b c : Value) (hy : y.cells = ((x.cells.set r a).set (r + 1) b).set (r + 2) c) :
    MvAt w (((W.setCell ⟨og, k * 12 + r, none⟩ a).setCell ⟨og, k * 12 + r + 1, none⟩ b).setCell ⟨og, k * 12 + r + 2, none⟩ c) (L.set k y) og oc n wv uv was up := by
  have lb := (iblk_at M.own).1
  have ng := grown_apart M.own M.grown
  exact ⟨((M.below.setCell lb _).setCell lb _).setCell lb _, M.own.set3 hk r hr a b c hy, (heap_set3 W og _ _ _ _ _ _ ng).trans M.grown, StrsO.far3 M.was (str_apart M.own M.was) _ _ _ _ _ _, StrsO.far3 M.up (str_apart M.own M.up) _ _ _ _ _ _⟩
theorem in_mem {us : List ByteArray} {s : ByteArray} (h : inB us s = false) : s ∉ us := fun hm => by rw [inB_iff.2 hm] at h; cases h
section
variable (w : World)
set_option maxHeartbeats 16000000 in
set_option maxRecDepth 100000 in
theorem rmove (l : List I12) (lv : Value) (h : IRow w l lv) (hr : RT l) (s p : ByteArray) (ver : Int) :
    Calls Try.prog 21 #[lv, .string s, .string p, .int .i64 ver] w (GrownI (movE l s p ver) (movL l s p) w) := by
  have H0 := Lib.hid h
  have HR := Lib.hid hr
  have hl : l.length ≤ 120 := hr.len
  obtain ⟨ao, cap, rfl⟩ := h.shape
  clear h hr
  have RN := Lib.hid (fun W (E : Nat) => rno W E)
  have RO := Lib.hid (fun W (hW : Below w.heap.size w W) => rold W l (.slice ao l.length cap) (H0.out.below hW) s ver)
  have RU := Lib.hid (fun W (hW : Below w.heap.size w W) t => rup W l (.slice ao l.length cap) (H0.out.below hW) (by omega) t)
  have FN := Lib.hid (fun W (hW : Below w.heap.size w W) => rfind W l (.slice ao l.length cap) (H0.out.below hW) s)
  have RCP := Lib.hid (fun W (hW : Below w.heap.size w W) => rcopied W l (.slice ao l.length cap) (H0.out.below hW) (by omega))
  have AE := Lib.hid (show movE l s p ver = if oldE l s ver ≠ 0 then oldE l s ver else if p ≠ ⟨#[]⟩ ∧ upI l p = [] then 2 else if s ∈ upI l p then 10 else if 9007199254740992 ≤ (itAt l s).ver then 4 else if movR l s p = false then 12 else 0 from rfl)
  have B0 := Lib.hid (below_al (Below.refl w.heap.size w) (.cells #[.slice none 0 0, .int .i64 0] 38))
  have G0 := Lib.hid (GBlk.new w (.slice none 0 0) 0)
  go_enter Try.func21, Try.ntmps21
  go_wp2_with fail
  with_reducible refine (RO.out _ B0.out).mono ?_
  rintro e2 w2 ⟨rfl, rfl⟩
  by_cases hE : oldE l s ver = 0
  · have AE2 := Lib.hid (show movE l s p ver = if p ≠ ⟨#[]⟩ ∧ upI l p = [] then 2 else if s ∈ upI l p then 10 else if 9007199254740992 ≤ (itAt l s).ver then 4 else if movR l s p = false then 12 else 0 by rw [AE.out, if_neg (fun h => h hE)])
    obtain ⟨x, hx, ex⟩ := old_look hE
    rw [ex] at AE2
    rw [hE]
    clear hE AE
    obtain ⟨k, hf, hk⟩ := find_at hx
    obtain ⟨xm, xn⟩ := look_name hx
    have kl : k < l.length := (List.getElem?_eq_some_iff.1 hk).1
    have y0 : (0 : Int) ≤ (k : Int) := by omega
    have y1 : (k : Int) < (l.length : Int) := by omega
    have HK := Lib.hid hk
    have EX := Lib.hid ex
    have HX := Lib.hid hx
    have XN := Lib.hid xn
    have XM := Lib.hid xm
    rw [hf] at FN
    clear hx hf hk ex xn xm RO
    go_wp2_with fail
    with_reducible refine (FN.out _ B0.out).mono ?_
    rintro e3 w3 ⟨rfl, rfl⟩
    go_wp2_with fail
    with_reducible refine (RU.out _ B0.out p).mono ?_
    rintro e4 w4 ⟨uv, rfl, h4, o4⟩
    have B4 := Lib.hid (below_tr B0.out h4)
    have G4 := Lib.hid (G0.out.below h4)
    have U4 := Lib.hid (show StrsO w4 w.heap.size uv (upI l p) from own_lower0 o4 B0.out.size)
    have UL := Lib.hid (HR.out.up p)
    obtain ⟨uo, uc, rfl⟩ := o4.shape
    clear h4 o4 FN
    have ep := tstr_empty p
    by_cases hpp : p ≠ ⟨#[]⟩ ∧ upI l p = []
    · have R := Lib.hid (show movE l s p ver = 2 by rw [AE2.out, if_pos hpp])
      obtain ⟨h1, h2⟩ := hpp
      rw [decide_eq_false h1] at ep
      rw [h2]
      clear h1 h2 AE2 U4
      go_wp2_with fail
      have RE := Lib.hid (fun W => (show Calls Try.prog 50 #[.int .i64 2] W (Made (.agg #[.slice none 0 0, .int .i64 2]) W) from RN.out W 2))
      with_reducible refine (RE.out _).mono ?_
      rintro e9 w9 ⟨rfl, h9⟩
      have B9 := Lib.hid (below_tr B4.out h9)
      have G9 := Lib.hid (G4.out.below h9)
      have f0 := G9.out.free 0
      have f1 := G9.out.free 1
      obtain ⟨c0, c1⟩ := G9.out.cells
      clear h9
      go_wp2_with fail
      have GF := Lib.hid (G9.out.set (.slice none 0 0) 2)
      obtain ⟨g0, g1⟩ := GF.out.cells
      exact bodyPost_ret (v := .agg #[.slice none 0 0, .int .i64 2]) (by simp [results, Try.results21, go_sem, g0, g1]) rfl ⟨_, by rw [R.out]; rfl, below_set2 B9.out (Nat.le_refl _) _ _, by rw [R.out]; exact IOwn_nil _ _⟩
    · have AE3 := Lib.hid (show movE l s p ver = if s ∈ upI l p then 10 else if 9007199254740992 ≤ x.ver then 4 else if movR l s p = false then 12 else 0 by rw [AE2.out, if_neg hpp])
      have PO := Lib.hid hpp
      have RI := Lib.hid (rin w4 (upI l p) (.slice uo (upI l p).length uc) (srow_of U4.out) (by have := UL.out; omega) s)
      clear AE2
      go_upto_region 6 with fail
      go_cut [32] (fun z wx => z = .bool false ∧ wx = w4)
      case first =>
        by_cases hp0 : p = ⟨#[]⟩
        · rw [decide_eq_true hp0] at ep
          have ep' : p.toList = [] := by simpa using ep
          clear hp0 hpp
          go_wp2_with fail
          go_meet
          case rel => exact ⟨rfl, rfl⟩
        · have un : (((upI l p).length : Int) == 0) = false := beq_false_of_ne (by
            intro e
            exact hpp ⟨hp0, List.eq_nil_of_length_eq_zero (by omega)⟩)
          have un2 : ¬ ((upI l p).length : Int) = 0 := by
            intro e
            exact hpp ⟨hp0, List.eq_nil_of_length_eq_zero (by omega)⟩
          rw [decide_eq_false hp0] at ep
          clear hp0 hpp
          go_wp2_with fail
          go_meet
          case rel => exact ⟨rfl, rfl⟩
      case rest =>
      obtain ⟨rfl, rfl⟩ := hcut
      generalize wc = w4 at *
      clear ep hpp
      go_wp2_with fail
      with_reducible refine RI.out.mono ?_
      rintro e5 w5 ⟨rfl, rfl⟩
      cases hin : inB (upI l p) s with
      | true =>
        have R := Lib.hid (show movE l s p ver = 10 by rw [AE3.out, if_pos (inB_iff.1 hin)])
        clear hin AE3
        go_wp2_with fail
        have RE := Lib.hid (fun W => (show Calls Try.prog 50 #[.int .i64 10] W (Made (.agg #[.slice none 0 0, .int .i64 10]) W) from RN.out W 10))
        with_reducible refine (RE.out _).mono ?_
        rintro e9 w9 ⟨rfl, h9⟩
        have B9 := Lib.hid (below_tr B4.out h9)
        have G9 := Lib.hid (G4.out.below h9)
        have f0 := G9.out.free 0
        have f1 := G9.out.free 1
        obtain ⟨c0, c1⟩ := G9.out.cells
        clear h9
        go_wp2_with fail
        have GF := Lib.hid (G9.out.set (.slice none 0 0) 10)
        obtain ⟨g0, g1⟩ := GF.out.cells
        exact bodyPost_ret (v := .agg #[.slice none 0 0, .int .i64 10]) (by simp [results, Try.results21, go_sem, g0, g1]) rfl ⟨_, by rw [R.out]; rfl, below_set2 B9.out (Nat.le_refl _) _ _, by rw [R.out]; exact IOwn_nil _ _⟩
      | false =>
        have NI := Lib.hid (in_mem hin)
        have AE4 := Lib.hid (show movE l s p ver = if 9007199254740992 ≤ x.ver then 4 else if movR l s p = false then 12 else 0 by rw [AE3.out, if_neg NI.out])
        obtain ⟨gx, ox, rfl, hat⟩ := (H0.out.below B4.out).atP HK.out
        have k11 := hat.c11
        have k1' := hat.c1
        clear hin AE3 hat RI
        by_cases hver : 9007199254740992 ≤ x.ver
        · have R := Lib.hid (show movE l s p ver = 4 by rw [AE4.out, if_pos hver])
          clear AE4
          go_wp2_with fail
          have RE := Lib.hid (fun W => (show Calls Try.prog 50 #[.int .i64 4] W (Made (.agg #[.slice none 0 0, .int .i64 4]) W) from RN.out W 4))
          with_reducible refine (RE.out _).mono ?_
          rintro e9 w9 ⟨rfl, h9⟩
          have B9 := Lib.hid (below_tr B4.out h9)
          have G9 := Lib.hid (G4.out.below h9)
          have f0 := G9.out.free 0
          have f1 := G9.out.free 1
          obtain ⟨c0, c1⟩ := G9.out.cells
          clear h9
          go_wp2_with fail
          have GF := Lib.hid (G9.out.set (.slice none 0 0) 4)
          obtain ⟨g0, g1⟩ := GF.out.cells
          exact bodyPost_ret (v := .agg #[.slice none 0 0, .int .i64 4]) (by simp [results, Try.results21, go_sem, g0, g1]) rfl ⟨_, by rw [R.out]; rfl, below_set2 B9.out (Nat.le_refl _) _ _, by rw [R.out]; exact IOwn_nil _ _⟩
        · have AE5 := Lib.hid (show movE l s p ver = if movR l s p = false then 12 else 0 by rw [AE4.out, if_neg hver])
          have hver2 : x.ver < 9007199254740992 := by omega
          clear AE4 hver
          go_wp2_with fail
          with_reducible refine (RCP.out _ B4.out).mono ?_
          rintro e6 w6 ⟨ov, rfl, h6, o6⟩
          have B6 := Lib.hid (below_tr B4.out h6)
          have G6 := Lib.hid (G4.out.below h6)
          have U6 := Lib.hid (StrsO.below U4.out h6)
          have O6 := Lib.hid (show IOwn w6 w.heap.size l ov from own_lower0 o6 B4.out.size)
          obtain ⟨og, oc, rfl⟩ : ∃ og oc, ov = .slice (some ⟨og, 0, none⟩) l.length oc := by
            rcases o6.2 with ⟨-, h0⟩ | ⟨g, cap, cur, rfl, -⟩
            · omega
            · exact ⟨g, cap, rfl⟩
          have m1 := hold h6 k1'
          clear h6 o6 k11 k1' RCP
          go_wp2_with fail
          with_reducible refine (RU.out _ B6.out x.parent).mono ?_
          rintro e7 w7 ⟨wv, rfl, h7, o7⟩
          have M7 := Lib.hid (show MvAt w w7 l og oc l.length wv (.slice uo (upI l p).length uc) (upI l x.parent) (upI l p) from
            ⟨below_tr B6.out h7, own_below O6.out h7, G6.out.below h7, own_lower0 o7 B6.out.size, StrsO.below U6.out h7⟩)
          obtain ⟨wo, wc', rfl⟩ := o7.shape
          have WLN := Lib.hid (HR.out.up x.parent)
          have WN := Lib.hid (show (upI l x.parent).Nodup from upF_nodup (l.length + 1) x.parent (by have := HR.out.up x.parent; unfold upI at this; omega))
          have UN := Lib.hid (show (upI l p).Nodup from upF_nodup (l.length + 1) p (by have := HR.out.up p; unfold upI at this; omega))
          have WK := Lib.hid (fun t (ht : t ∈ upI l x.parent) => up_known (l := l) (l.length + 1) x.parent t ht)
          have UK := Lib.hid (fun t (ht : t ∈ upI l p) => up_known (l := l) (l.length + 1) p t ht)
          clear h7 o7 m1 B6 G6 U6 O6 B4 G4 U4 RU
          go_wp2_with fail
          have XB := Lib.hid (may_bounds ((one_iff.1 (HR.out.one x XM.out)).2.2.2.2.2.2))
          have UPM := Lib.hid (show ∀ y ∈ l, y.name ∈ upI l p → leV (movS (upI l x.parent) (upI l p) x.sub y) y.lim = false → movR l s p = false from fun y hy hm hf => by
            unfold movR
            rw [EX.out, List.all_eq_false]
            refine ⟨y, hy, ?_⟩
            rw [decide_eq_true hm, hf]
            decide)
          have UPT := Lib.hid (show (∀ t ∈ upI l p, ∀ y, look l t = some y → leV (movS (upI l x.parent) (upI l p) x.sub y) y.lim = true) → movR l s p = true from fun g => by
            unfold movR
            rw [EX.out, List.all_eq_true]
            intro y hy
            by_cases hm : y.name ∈ upI l p
            · rw [g _ hm y (look_mem HR.out.srt.uq hy), Bool.or_true]
            · rw [decide_eq_false hm]; rfl)
          have ML := Lib.hid (show movL l s p = l.map (movF (upI l x.parent) (upI l p) x.sub s p) from by unfold movL; rw [EX.out])
          have SW := Lib.hid (show s ∉ upI l x.parent from by rw [← XN.out]; exact up_not HR.out XM.out)
          generalize upI l x.parent = was at *
          generalize upI l p = up at *
          have wl : was.length ≤ 120 := by have := WLN.out; omega
          have ul : up.length ≤ 120 := by have := UL.out; omega
          go_loopg [14] was.length (fun m iv wr => ∃ i : Nat, iv = .int .i64 (i : Int) ∧ was.length - i ≤ m ∧ i ≤ was.length ∧ MvAt w wr (l.map (admS (was.take i) (negV x.sub))) og oc l.length (.slice wo was.length wc') (.slice uo up.length uc) was up)
          case atStart => exact ⟨0, rfl, Nat.le_refl _, Nat.zero_le _, by
            have e : l.map (admS (was.take 0) (negV x.sub)) = l := by
              rw [List.take_zero]
              conv => rhs; rw [← List.map_id l]
              refine List.map_congr_left fun x hx => ?_
              unfold admS
              rw [if_neg (by simp)]; rfl
            rw [e]; exact M7.out⟩
          case round =>
            obtain ⟨i, rfl, hm, hi, hM⟩ := hrel
            have HM := Lib.hid hm
            have MR := Lib.hid hM
            clear hm hM M7
            by_cases hlt : i < was.length
            · obtain ⟨t, ht⟩ : ∃ t, was[i]? = some t := ⟨_, List.getElem?_eq_getElem hlt⟩
              have HT := Lib.hid ht
              obtain ⟨y, hy⟩ := WK.out t (List.mem_of_getElem? ht)
              obtain ⟨ym, yn⟩ := look_name hy
              obtain ⟨j, hji, hj⟩ := look_at hy
              subst yn
              have HJ := Lib.hid hj
              have hjl : j < l.length := (List.getElem?_eq_some_iff.1 hj).1
              have AT := Lib.hid (adm_at (l := l) (us := was) WN.out (negV x.sub) hj ht)
              have AN := Lib.hid (adm_next HR.out.srt.uq (us := was) WN.out (negV x.sub) hj rfl ht)
              have FN := Lib.hid (rfind wr (l.map (admS (was.take i) (negV x.sub))) (.slice (some ⟨og, 0, none⟩) l.length oc) (irow_of_own MR.out.own) y.name)
              have FI : findI (l.map (admS (was.take i) (negV x.sub))) y.name = (j : Int) := by unfold findI; rw [idx_map (f := admS (was.take i) (negV x.sub)) (fun _ => rfl), hji]
              rw [FI] at FN
              obtain ⟨wb, hwb, hc0⟩ := StrsO.cell MR.out.was ht
              obtain rfl := hwb
              have YB := may_bounds (HR.out.may y ym)
              have XB2 := XB.out
              have RS := Lib.hid (fun W => rsub_any W y.sub x.sub (by unfold V3.I subV; simp only; omega))
              have i0 : (0 : Int) ≤ (i : Int) := by omega
              have i1 : (i : Int) < (was.length : Int) := by omega
              have j0 : (0 : Int) ≤ (j : Int) := by omega
              have j1 : (j : Int) < (l.length : Int) := by omega
              clear ht hy ym hji hj FI YB XB2
              go_wp2_with fail
              with_reducible refine FN.out.mono ?_
              rintro e8 w8 ⟨rfl, rfl⟩
              obtain ⟨s2, hs2⟩ : ∃ s2, s2 = subV y.sub x.sub := ⟨_, rfl⟩
              rw [← hs2] at RS
              rw [add_neg, ← hs2] at AN
              clear hs2
              obtain ⟨q0, q1, q2, q3, q4, q5, q6, q7, q8, q9, q10, q11⟩ := (show IOwn wr w.heap.size (l.map (admS (was.take i) (negV x.sub))) (.slice (some ⟨og, 0, none⟩) l.length oc) from MR.out.own).at AT.out
              obtain ⟨_, _, eg, XA⟩ := (H0.out.below MR.out.below).atP HK.out
              cases eg
              obtain ⟨r0, r1, r2, r3, r4, r5, r6, r7, r8, r9, r10, r11⟩ := XA
              clear q0 q1 q2 q3 q4 q5 q6 q7 q11 r0 r1 r2 r3 r4 r5 r6 r7 r11
              go_upto_region 18 with fail
              refine wp_region_mono_tail 15 (by kernel_rfl) (by kernel_rfl) (Nat.le_of_ble_eq_true (by kernel_rfl)) (by kernel_rfl) ?_
              simp only [List.map_cons, List.map_nil]
              simp only [List.take_succ_cons, List.take_zero, List.drop_succ_cons, List.drop_zero]
              repeat (first
                | (apply wpM_is
                   · (intro us W hW hg K hK
                      clear hg
                      have d0 := hold hW q8
                      have d1 := hold hW q9
                      have d2 := hold hW q10
                      have d3 := hold hW r8
                      have d4 := hold hW r9
                      have d5 := hold hW r10
                      simp only [fillA]
                      go_simp
                      first
                      | exact hK _ (Below.refl _ _)
                      | ((with_reducible refine (RS.out _).mono ?_); rintro e w' ⟨rfl, hb⟩; exact hK _ hb))
                   simp only [setD, List.set_cons_zero, List.set_cons_succ]))
              intro us' W hW hg
              simp only [fillA]
              clear hg
              have MW := Lib.hid (MR.out.next hW)
              replace q8 := hold hW q8
              replace q9 := hold hW q9
              replace q10 := hold hW q10
              have fz8 := IOwn.frz MW.out.own (j * 12 + 8)
              have fz9 := IOwn.frz MW.out.own (j * 12 + 9)
              have fz10 := IOwn.frz MW.out.own (j * 12 + 10)
              clear hW r8 r9 r10 RS hc0
              have M2 := Lib.hid (show MvAt w (((W.setCell ⟨og, j * 12 + 8, none⟩ (.int .i64 s2.c)).setCell ⟨og, j * 12 + 8 + 1, none⟩ (.int .i64 s2.m)).setCell ⟨og, j * 12 + 8 + 2, none⟩ (.int .i64 s2.p)) (l.map (admS (was.take (i + 1)) (negV x.sub))) og oc l.length (.slice (some ⟨wb, 0, none⟩) was.length wc') (.slice uo up.length uc) was up from by
                rw [← AN.out]
                exact MW.out.set3 AT.out 8 (by decide) _ _ _ rfl)
              go_wp2_with fail
              go_roundg (was.length - (i + 1))
              case rel => exact ⟨i + 1, by go_num, Nat.le_refl _, hlt, M2.out⟩
              case measure => have := HM.out; omega
            · obtain rfl : i = was.length := by omega
              have MA := Lib.hid (show MvAt w wr (l.map (admS was (negV x.sub))) og oc l.length (.slice wo was.length wc') (.slice uo up.length uc) was up from by
                have := MR.out
                rwa [List.take_length] at this)
              clear MR
              go_wp2_with fail
              have U1q := Lib.hid (show Uq (l.map (admS was (negV x.sub))) from List.pairwise_map.2 HR.out.srt.uq)
              go_loopg [16] up.length (fun m iv wr => ∃ i : Nat, iv = .int .i64 (i : Int) ∧ up.length - i ≤ m ∧ i ≤ up.length ∧ MvAt w wr ((l.map (admS was (negV x.sub))).map (admS (up.take i) x.sub)) og oc l.length (.slice wo was.length wc') (.slice uo up.length uc) was up ∧ Hid (∀ a t, a < i → up[a]? = some t → ∀ y, look l t = some y → leV (movS was up x.sub y) y.lim = true))
              case atStart => exact ⟨0, rfl, Nat.le_refl _, Nat.zero_le _, by
                have e : (l.map (admS was (negV x.sub))).map (admS (up.take 0) x.sub) = l.map (admS was (negV x.sub)) := by
                  rw [List.take_zero]
                  conv => rhs; rw [← List.map_id (l.map (admS was (negV x.sub)))]
                  refine List.map_congr_left fun x hx => ?_
                  unfold admS
                  rw [if_neg (by simp)]; rfl
                rw [e]; exact MA.out, Lib.hid (fun a t ha => by omega)⟩
              case round =>
                obtain ⟨i, rfl, hm, hi, hM, HP⟩ := hrel
                have HM := Lib.hid hm
                have MR := Lib.hid hM
                clear hm hM MA
                by_cases hlt : i < up.length
                · obtain ⟨t, ht⟩ : ∃ t, up[i]? = some t := ⟨_, List.getElem?_eq_getElem hlt⟩
                  have HT := Lib.hid ht
                  obtain ⟨y, hy⟩ := UK.out t (List.mem_of_getElem? ht)
                  obtain ⟨ym, yn⟩ := look_name hy
                  obtain ⟨j, hji, hj⟩ := look_at hy
                  subst yn
                  have HLY := Lib.hid hy
                  have YM := Lib.hid ym
                  have hjl : j < l.length := (List.getElem?_eq_some_iff.1 hj).1
                  have hj1 : (l.map (admS was (negV x.sub)))[j]? = some (admS was (negV x.sub) y) := by rw [List.getElem?_map, hj]; rfl
                  have AT := Lib.hid (adm_at (l := l.map (admS was (negV x.sub))) (us := up) UN.out x.sub hj1 ht)
                  have AN := Lib.hid (adm_next U1q.out (us := up) UN.out x.sub hj1 rfl ht)
                  have tin : y.name ∈ up.take (i + 1) := by rw [List.take_add_one, ht]; exact List.mem_append_right _ List.mem_cons_self
                  have AT2 := Lib.hid (adm_at2 (l := l.map (admS was (negV x.sub))) (us := up.take (i + 1)) x.sub hj1 tin)
                  have FN := Lib.hid (rfind wr ((l.map (admS was (negV x.sub))).map (admS (up.take i) x.sub)) (.slice (some ⟨og, 0, none⟩) l.length oc) (irow_of_own (by have := MR.out.own; exact this)) y.name)
                  have FI : findI ((l.map (admS was (negV x.sub))).map (admS (up.take i) x.sub)) y.name = (j : Int) := by unfold findI; rw [idx_map (f := admS (up.take i) x.sub) (fun _ => rfl), idx_map (f := admS was (negV x.sub)) (fun _ => rfl), hji]
                  rw [FI] at FN
                  obtain ⟨ub, hub, hc0⟩ := StrsO.cell MR.out.up ht
                  obtain rfl := hub
                  have YB := may_bounds (HR.out.may y ym)
                  have XB2 := XB.out
                  have SV := Lib.hid (show movS was up x.sub y = addV (admS was (negV x.sub) y).sub x.sub from by
                    unfold movS
                    rw [if_pos (List.mem_of_getElem? ht)]; rfl)
                  have YM2 : (admS was (negV x.sub) y).sub = y.sub ∨ (admS was (negV x.sub) y).sub = addV y.sub (negV x.sub) := by
                    show (if y.name ∈ was then addV y.sub (negV x.sub) else y.sub) = y.sub ∨ (if y.name ∈ was then addV y.sub (negV x.sub) else y.sub) = addV y.sub (negV x.sub)
                    split
                    · exact .inr rfl
                    · exact .inl rfl
                  have RA := Lib.hid (fun W => radd2_any W (admS was (negV x.sub) y).sub x.sub (by
                    rcases YM2 with e | e <;> rw [e] <;> unfold V3.I addV <;> simp only [negV] <;> omega))
                  have i0 : (0 : Int) ≤ (i : Int) := by omega
                  have i1 : (i : Int) < (up.length : Int) := by omega
                  have j0 : (0 : Int) ≤ (j : Int) := by omega
                  have j1 : (j : Int) < (l.length : Int) := by omega
                  obtain ⟨y1, hy1⟩ : ∃ y1, y1 = admS was (negV x.sub) y := ⟨_, rfl⟩
                  have Y1L := Lib.hid (show y1.lim = y.lim from by rw [hy1]; rfl)
                  rw [← hy1] at AT AN AT2 SV RA
                  clear hy1 YM2
                  clear ht hy ym hji hj FI YB XB2 hj1 tin
                  go_wp2_with fail
                  with_reducible refine FN.out.mono ?_
                  rintro e8 w8 ⟨rfl, rfl⟩
                  obtain ⟨s2, hs2⟩ : ∃ s2, s2 = addV y1.sub x.sub := ⟨_, rfl⟩
                  rw [← hs2] at RA AN AT2 SV
                  clear hs2
                  obtain ⟨q0, q1, q2, q3, q4, q5, q6, q7, q8, q9, q10, q11⟩ := (show IOwn wr w.heap.size ((l.map (admS was (negV x.sub))).map (admS (up.take i) x.sub)) (.slice (some ⟨og, 0, none⟩) l.length oc) from MR.out.own).at AT.out
                  obtain ⟨_, _, eg, XA⟩ := (H0.out.below MR.out.below).atP HK.out
                  cases eg
                  obtain ⟨r0, r1, r2, r3, r4, r5, r6, r7, r8, r9, r10, r11⟩ := XA
                  clear q0 q1 q2 q3 q4 q5 q6 q7 q11 r0 r1 r2 r3 r4 r5 r6 r7 r11
                  go_upto_region 23 with fail
                  refine wp_region_mono_tail 15 (by kernel_rfl) (by kernel_rfl) (Nat.le_of_ble_eq_true (by kernel_rfl)) (by kernel_rfl) ?_
                  simp only [List.map_cons, List.map_nil]
                  simp only [List.take_succ_cons, List.take_zero, List.drop_succ_cons, List.drop_zero]
                  repeat (first
                    | (apply wpM_is
                       · (intro us W hW hg K hK
                          clear hg
                          have d0 := hold hW q8
                          have d1 := hold hW q9
                          have d2 := hold hW q10
                          have d3 := hold hW r8
                          have d4 := hold hW r9
                          have d5 := hold hW r10
                          simp only [fillA]
                          go_simp
                          first
                          | exact hK _ (Below.refl _ _)
                          | ((with_reducible refine (RA.out _).mono ?_); rintro e w' ⟨rfl, hb⟩; exact hK _ hb))
                       simp only [setD, List.set_cons_zero, List.set_cons_succ]))
                  intro us' W hW hg
                  simp only [fillA]
                  clear hg
                  have MW := Lib.hid (MR.out.next hW)
                  replace q8 := hold hW q8
                  replace q9 := hold hW q9
                  replace q10 := hold hW q10
                  have fz8 := IOwn.frz MW.out.own (j * 12 + 8)
                  have fz9 := IOwn.frz MW.out.own (j * 12 + 9)
                  have fz10 := IOwn.frz MW.out.own (j * 12 + 10)
                  clear hW r8 r9 r10 RA hc0
                  have M2 := Lib.hid (show MvAt w (((W.setCell ⟨og, j * 12 + 8, none⟩ (.int .i64 s2.c)).setCell ⟨og, j * 12 + 8 + 1, none⟩ (.int .i64 s2.m)).setCell ⟨og, j * 12 + 8 + 2, none⟩ (.int .i64 s2.p)) ((l.map (admS was (negV x.sub))).map (admS (up.take (i + 1)) x.sub)) og oc l.length (.slice wo was.length wc') (.slice (some ⟨ub, 0, none⟩) up.length uc) was up from by
                    rw [← AN.out]
                    exact MW.out.set3 AT.out 8 (by decide) _ _ _ rfl)
                  go_upto_region 24 with fail
                  generalize (((W.setCell ⟨og, j * 12 + 8, none⟩ (.int .i64 s2.c)).setCell ⟨og, j * 12 + 8 + 1, none⟩ (.int .i64 s2.m)).setCell ⟨og, j * 12 + 8 + 2, none⟩ (.int .i64 s2.p)) = W2 at *
                  obtain ⟨q0, q1, q2, q3, q4, q5, q6, q7, q8, q9, q10, q11⟩ := (show IOwn W2 w.heap.size ((l.map (admS was (negV x.sub))).map (admS (up.take (i + 1)) x.sub)) (.slice (some ⟨og, 0, none⟩) l.length oc) from M2.out.own).at AT2.out
                  simp only [Y1L.out] at q2 q3 q4
                  have LE := Lib.hid (fun W => rle_any W s2 y.lim)
                  clear q0 q1 q5 q6 q7 q11 fz8 fz9 fz10
                  refine wp_region_mono (by kernel_rfl) (by kernel_rfl) ?_
                  simp only [List.map_cons, List.map_nil, List.append_eq, List.cons_append, List.nil_append]
                  repeat (first
                    | (apply wpM_is
                       · (intro us W hW hg K hK
                          clear hg
                          have d0 := hold hW q8
                          have d1 := hold hW q9
                          have d2 := hold hW q10
                          have d3 := hold hW q2
                          have d4 := hold hW q3
                          have d5 := hold hW q4
                          simp only [fillA]
                          go_simp
                          first
                          | exact hK _ (Below.refl _ _)
                          | ((with_reducible refine (LE.out _).mono ?_); rintro e w' ⟨rfl, hb⟩; exact hK _ hb))
                       simp only [setD, List.set_cons_zero, List.set_cons_succ]))
                  intro us9 W9 hW9 hg
                  simp only [fillA]
                  clear hg
                  have M9 := Lib.hid (M2.out.next hW9)
                  clear hW9 q2 q3 q4 q8 q9 q10 M2
                  cases hle : leV s2 y.lim with
                  | false =>
                    have R := Lib.hid (show movE l s p ver = 12 by rw [AE5.out, if_pos (UPM.out y YM.out (List.mem_of_getElem? HT.out) (by rw [SV.out]; exact hle))])
                    have B9' := Lib.hid M9.out.below
                    have G9' := Lib.hid M9.out.grown
                    clear hle
                    go_wp2_with fail
                    have RE := Lib.hid (fun W => (show Calls Try.prog 50 #[.int .i64 12] W (Made (.agg #[.slice none 0 0, .int .i64 12]) W) from RN.out W 12))
                    with_reducible refine (RE.out _).mono ?_
                    rintro e9 w9 ⟨rfl, h9⟩
                    have B9 := Lib.hid (below_tr B9'.out h9)
                    have G9 := Lib.hid (G9'.out.below h9)
                    have f0 := G9.out.free 0
                    have f1 := G9.out.free 1
                    obtain ⟨c0, c1⟩ := G9.out.cells
                    clear h9
                    go_wp2_with fail
                    have GF := Lib.hid (G9.out.set (.slice none 0 0) 12)
                    obtain ⟨g0, g1⟩ := GF.out.cells
                    exact bodyPost_ret (v := .agg #[.slice none 0 0, .int .i64 12]) (by simp [results, Try.results21, go_sem, g0, g1]) rfl ⟨_, by rw [R.out]; rfl, below_set2 B9.out (Nat.le_refl _) _ _, by rw [R.out]; exact IOwn_nil _ _⟩
                  | true =>
                    have NP := Lib.hid (show ∀ a t, a < i + 1 → up[a]? = some t → ∀ z, look l t = some z → leV (movS was up x.sub z) z.lim = true from fun a t ha hta z hz => by
                      by_cases e : a = i
                      · subst e
                        have h1 := HT.out
                        rw [hta] at h1
                        obtain rfl := Option.some.inj h1
                        have h2 := HLY.out
                        rw [hz] at h2
                        obtain rfl := Option.some.inj h2
                        rw [SV.out]; exact hle
                      · exact HP.out a t (by omega) hta z hz)
                    clear hle
                    go_wp2_with fail
                    go_roundg (up.length - (i + 1))
                    case rel => exact ⟨i + 1, by go_num, Nat.le_refl _, hlt, M9.out, NP⟩
                    case measure => have := HM.out; omega
                · obtain rfl : i = up.length := by omega
                  have MB := Lib.hid (show MvAt w wr ((l.map (admS was (negV x.sub))).map (admS up x.sub)) og oc l.length (.slice wo was.length wc') (.slice uo up.length uc) was up from by
                    have := MR.out
                    rwa [List.take_length] at this)
                  have R := Lib.hid (show movE l s p ver = 0 by
                    rw [AE5.out, if_neg]
                    rw [Bool.not_eq_false]
                    exact UPT.out fun t ht y hy => by
                      obtain ⟨a, ha, hat⟩ := List.mem_iff_getElem.1 ht
                      exact HP.out a t ha (by rw [← hat]; exact List.getElem?_eq_getElem ha) y hy)
                  clear MR AE5 UPM UPT
                  have FIN := Lib.hid (show ((l.map (admS was (negV x.sub))).map (admS up x.sub)).set k ⟨x.name, p, x.lim, x.own, x.sub, x.ver + 1⟩ = movL l s p from by
                    have hx2 : ((l.map (admS was (negV x.sub))).map (admS up x.sub))[k]? = some x := by
                      rw [List.getElem?_map, List.getElem?_map, HK.out]
                      show some (⟨x.name, x.parent, x.lim, x.own, if x.name ∈ up then addV (if x.name ∈ was then addV x.sub (negV x.sub) else x.sub) x.sub else (if x.name ∈ was then addV x.sub (negV x.sub) else x.sub), x.ver⟩ : I12) = some x
                      rw [XN.out, if_neg NI.out, if_neg SW.out, ← XN.out]
                    have hu2 : Uq ((l.map (admS was (negV x.sub))).map (admS up x.sub)) := by
                      rw [List.map_map]
                      exact List.pairwise_map.2 HR.out.srt.uq
                    have := set_map hu2 hx2 (g := reP s p) (fun y _ hy => by
                      unfold reP
                      rw [← XN.out, if_neg hy, if_neg hy])
                    rw [ML.out]
                    have e2 : l.map (movF was up x.sub s p) = ((l.map (admS was (negV x.sub))).map (admS up x.sub)).map (reP s p) := by
                      rw [List.map_map, List.map_map]; rfl
                    rw [e2, ← this]
                    congr 1
                    unfold reP
                    rw [if_pos XN.out, if_pos XN.out])
                  have KX := Lib.hid (show ((l.map (admS was (negV x.sub))).map (admS up x.sub))[k]? = some x from by
                    rw [List.getElem?_map, List.getElem?_map, HK.out]
                    show some (⟨x.name, x.parent, x.lim, x.own, if x.name ∈ up then addV (if x.name ∈ was then addV x.sub (negV x.sub) else x.sub) x.sub else (if x.name ∈ was then addV x.sub (negV x.sub) else x.sub), x.ver⟩ : I12) = some x
                    rw [XN.out, if_neg NI.out, if_neg SW.out, ← XN.out])
                  have ML3 := Lib.hid (show ((l.map (admS was (negV x.sub))).map (admS up x.sub)).length = l.length from by rw [List.length_map, List.length_map])
                  have XV := (one_iff.1 (HR.out.one x XM.out)).2.2.2.2.1
                  generalize (l.map (admS was (negV x.sub))).map (admS up x.sub) = L2 at *
                  obtain ⟨q0, q1, q2, q3, q4, q5, q6, q7, q8, q9, q10, q11⟩ := (show IOwn wr w.heap.size L2 (.slice (some ⟨og, 0, none⟩) l.length oc) from MB.out.own).at KX.out
                  have fz1 := IOwn.frz MB.out.own (k * 12 + 1)
                  have LB := Lib.hid (iblk_at MB.out.own).1
                  have NG := Lib.hid (grown_apart MB.out.own MB.out.grown)
                  clear q0 q2 q3 q4 q5 q6 q7 q8 q9 q10
                  have O2 := Lib.hid (show IOwn (wr.setCell ⟨og, k * 12 + 1, none⟩ (.string p)) w.heap.size (L2.set k ⟨x.name, p, x.lim, x.own, x.sub, x.ver⟩) (.slice (some ⟨og, 0, none⟩) l.length oc) from IOwn.set1 MB.out.own KX.out (y := ⟨x.name, p, x.lim, x.own, x.sub, x.ver⟩) 1 (by decide) (.string p) rfl)
                  have B5 := Lib.hid (show Below w.heap.size w (wr.setCell ⟨og, k * 12 + 1, none⟩ (.string p)) from MB.out.below.setCell (by exact LB.out) _)
                  have G5 := Lib.hid (show GBlk (wr.setCell ⟨og, k * 12 + 1, none⟩ (.string p)) w.heap.size (.slice none 0 0) 0 from (heap_setCell_other wr ⟨og, k * 12 + 1, none⟩ w.heap.size _ NG.out).trans MB.out.grown)
                  go_upto_region 27 with fail
                  generalize wr.setCell ⟨og, k * 12 + 1, none⟩ (.string p) = W2 at *
                  have HK2 := Lib.hid (show (L2.set k ⟨x.name, p, x.lim, x.own, x.sub, x.ver⟩)[k]? = some ⟨x.name, p, x.lim, x.own, x.sub, x.ver⟩ from by rw [List.getElem?_set, if_pos rfl, if_pos (by rw [ML3.out]; exact kl)])
                  have r11 := (O2.out.at HK2.out).c11
                  have fz11 := O2.out.frz (k * 12 + 11)
                  have wv' : IntKind.i64.wrap (x.ver + 1) = x.ver + 1 := by rw [IntKind.wrap_i64]; omega
                  have O3 := Lib.hid (show IOwn (W2.setCell ⟨og, k * 12 + 11, none⟩ (.int .i64 (x.ver + 1))) w.heap.size (movL l s p) (.slice (some ⟨og, 0, none⟩) l.length oc) from by
                    have := O2.out.set1 HK2.out (y := ⟨x.name, p, x.lim, x.own, x.sub, x.ver + 1⟩) 11 (by decide) (.int .i64 (x.ver + 1)) rfl
                    rw [List.set_set, FIN.out] at this
                    exact this)
                  have B6 := Lib.hid (show Below w.heap.size w (W2.setCell ⟨og, k * 12 + 11, none⟩ (.int .i64 (x.ver + 1))) from B5.out.setCell (by exact LB.out) _)
                  have G6 := Lib.hid (show GBlk (W2.setCell ⟨og, k * 12 + 11, none⟩ (.int .i64 (x.ver + 1))) w.heap.size (.slice none 0 0) 0 from (heap_setCell_other W2 ⟨og, k * 12 + 11, none⟩ w.heap.size _ NG.out).trans G5.out)
                  clear q1 q11 fz1 XV
                  go_upto_region 28 with fail
                  generalize W2.setCell ⟨og, k * 12 + 11, none⟩ (.int .i64 (x.ver + 1)) = W3' at *
                  have f0 := G6.out.free 0
                  have f1 := G6.out.free 1
                  obtain ⟨c0, c1⟩ := G6.out.cells
                  go_wp2_with fail
                  have GF := Lib.hid (G6.out.set (.slice (some ⟨og, 0, none⟩) l.length oc) 0)
                  have OF := Lib.hid (O3.out.far (O3.out.apart G6.out) (.slice (some ⟨og, 0, none⟩) l.length oc) (.int .i64 0))
                  obtain ⟨g0, g1⟩ := GF.out.cells
                  exact bodyPost_ret (v := .agg #[.slice (some ⟨og, 0, none⟩) l.length oc, .int .i64 0]) (by simp [results, Try.results21, go_sem, g0, g1]) rfl ⟨_, by rw [R.out]; rfl, below_set2 B6.out (Nat.le_refl _) _ _, by rw [R.out, if_pos rfl]; exact OF.out⟩
  · have R := Lib.hid (show movE l s p ver = oldE l s ver by rw [AE.out, if_pos hE])
    generalize oldE l s ver = E at *
    have NE := hE
    have ne : ((E : Int) != 0) = true := by
      rw [bne, beq_false_of_ne (by omega)]; rfl
    have ne2 : ((E : Int) == 0) = false := beq_false_of_ne (by omega)
    clear hE AE
    go_wp2_with fail
    have RE := Lib.hid (fun W => (show Calls Try.prog 50 #[.int .i64 (E : Int)] W (Made (.agg #[.slice none 0 0, .int .i64 (E : Int)]) W) from RN.out W E))
    with_reducible refine (RE.out _).mono ?_
    rintro e9 w9 ⟨rfl, h9⟩
    have B9 := Lib.hid (below_tr B0.out h9)
    have G9 := Lib.hid (G0.out.below h9)
    have f0 := G9.out.free 0
    have f1 := G9.out.free 1
    obtain ⟨c0, c1⟩ := G9.out.cells
    clear h9
    go_wp2_with fail
    have GF := Lib.hid (G9.out.set (.slice none 0 0) (E : Int))
    obtain ⟨g0, g1⟩ := GF.out.cells
    exact bodyPost_ret (v := .agg #[.slice none 0 0, .int .i64 (E : Int)]) (by simp [results, Try.results21, go_sem, g0, g1]) rfl ⟨_, by rw [R.out], below_set2 B9.out (Nat.le_refl _) _ _, by rw [R.out]; exact by rw [if_neg NE]; exact IOwn_nil _ _⟩
end
end Go.Proofs.Ytmpakgabehplbaa
