/- VecAll: all of any amounts that may be is the document's. -/
import Derived.Test.YtjoakpgcflhfnaaDoorVecE
namespace Go.Proofs.YtjoakpgcflhfnaaDoor
open Go.RowKit
set_option linter.unusedVariables false
set_option linter.unusedSimpArgs false
section
variable (w : World)
set_option maxHeartbeats 4000000 in
set_option maxRecDepth 20000 in
theorem raddall (l : List V3) (lv : Value) (h : VRow w l lv) (hl : l.length ≤ 1000) (hb : ∀ v ∈ l, v.Upto 4398046511104) :
    Calls Tryd.prog 12 #[lv] w (Made (.agg #[.int .i64 (sumV l).c, .int .i64 (sumV l).m, .int .i64 (sumV l).p]) w) := by
  obtain ⟨ao, cap, rfl, hcap, hat⟩ := h
  have HAT := Lib.hid hat
  have HB := Lib.hid hb
  clear hat hb hcap
  go_enter Tryd.func12, Tryd.ntmps12
  go_wp2_with fail
  have R0 := Lib.hid ((CBlk.new w z3).al (.cells #[.int .i64 0, .int .i64 0, .int .i64 0] 23))
  have T0 := Lib.hid (show CBlk ((w.alloc (.cells #[.int .i64 0, .int .i64 0, .int .i64 0] 23)).alloc (.cells #[.int .i64 0, .int .i64 0, .int .i64 0] 23)) (w.heap.size + 1) z3 from heap_at (by simp))
  have B0 := Lib.hid (below_al (below_al (Below.refl w.heap.size w) (.cells #[.int .i64 0, .int .i64 0, .int .i64 0] 23)) (.cells #[.int .i64 0, .int .i64 0, .int .i64 0] 23))
  go_loopg [4] l.length (fun m iv wr => ∃ (k : Nat) (s : V3), iv = .int .i64 k ∧ l.length - k ≤ m ∧ k ≤ l.length ∧ Below w.heap.size w wr ∧ CBlk wr (w.heap.size + 1) s ∧ CBlk wr w.heap.size z3 ∧ s.Upto ((k : Int) * 4398046511104) ∧ Hid (sumV l = (l.drop k).foldl addV s))
  case atStart => exact ⟨0, z3, rfl, Nat.le_refl _, Nat.zero_le _, B0.out, T0.out, R0.out, by simp [V3.Upto, z3], Lib.hid rfl⟩
  case round =>
    obtain ⟨k, s, rfl, hm, hk, hb, hT, hR, hU, SU⟩ := hrel
    have HM := Lib.hid hm
    have BR := Lib.hid hb
    have TB := Lib.hid hT
    have RB := Lib.hid hR
    have UB := Lib.hid hU
    clear hm hb hT hR
    obtain ⟨t0, t1, t2, tl⟩ := TB.out.cells
    by_cases hlt : k < l.length
    · obtain ⟨u, hu⟩ : ∃ u, l[k]? = some u := ⟨_, List.getElem?_eq_getElem hlt⟩
      obtain ⟨g, o, rfl, c0, c1, c2⟩ := HAT.out k u hu
      have k0 := hold BR.out c0
      have k1 := hold BR.out c1
      have k2 := hold BR.out c2
      have DR := Lib.hid (show l.drop k = u :: l.drop (k + 1) by
        rw [List.drop_eq_getElem_cons hlt]
        congr 1
        exact (List.getElem?_eq_some_iff.1 hu).2)
      have UU := Lib.hid (HB.out u (List.mem_of_getElem? hu))
      have SN := Lib.hid (show sumV l = (l.drop (k + 1)).foldl addV (addV s u) by rw [SU.out, DR.out]; rfl)
      have UN := Lib.hid (show (addV s u).Upto (((k + 1 : Nat) : Int) * 4398046511104) by
        have := UB.out; have := UU.out
        unfold V3.Upto at *; unfold addV; simp only; omega)
      have AI := Lib.hid (fun W => radd2_any W s u (by
        have := UB.out; have := UU.out
        unfold V3.Upto at *; unfold V3.I addV; simp only; omega))
      generalize addV s u = n at *
      clear c0 c1 c2 hu hU
      have x0 : (0 : Int) ≤ (k : Int) := by omega
      have x1 : (k : Int) < (l.length : Int) := by omega
      go_wp2_with fail
      refine wp_region_mono_tail 6 (by kernel_rfl) (by kernel_rfl) (Nat.le_of_ble_eq_true (by kernel_rfl)) (by kernel_rfl) ?_
      simp only [List.map_cons, List.map_nil]
      simp only [List.take_succ_cons, List.take_zero, List.drop_succ_cons, List.drop_zero]
      repeat (first
        | (apply wpM_is
           · (intro us W hW hg K hK
              clear hg
              have d0 := hold hW t0
              have d1 := hold hW t1
              have d2 := hold hW t2
              have d3 := hold hW k0
              have d4 := hold hW k1
              have d5 := hold hW k2
              simp only [fillA]
              go_simp
              first
              | exact hK _ (Below.refl _ _)
              | ((with_reducible refine (AI.out _).mono ?_); rintro e w' ⟨rfl, hb⟩; exact hK _ hb))
           simp only [setD, List.set_cons_zero, List.set_cons_succ]))
      intro us W hW hg
      simp only [fillA]
      clear hg
      have BW := Lib.hid (below_tr BR.out hW)
      have TW := Lib.hid (TB.out.below hW)
      have RW := Lib.hid (RB.out.below hW)
      obtain ⟨e0, e1, e2, el⟩ := TW.out.cells
      have f0 := TW.out.free 0
      have f1 := TW.out.free 1
      have f2 := TW.out.free 2
      clear hW t0 t1 t2 tl k0 k1 k2
      go_wp2_with fail
      go_roundg (l.length - (k + 1))
      case rel => exact ⟨k + 1, n, by go_num, Nat.le_refl _, hlt, below_set3 BW.out (Nat.le_succ _) _ _ _, TW.out.set n, RW.out.far (by omega) _ _ _, UN.out, SN⟩
      case measure => have := HM.out; omega
    · obtain rfl : k = l.length := by omega
      have SN := Lib.hid (show sumV l = s by rw [SU.out, List.drop_of_length_le (Nat.le_refl _)]; rfl)
      obtain ⟨r0, r1, r2, rl⟩ := RB.out.cells
      have f0 := RB.out.free 0
      have f1 := RB.out.free 1
      have f2 := RB.out.free 2
      go_wp2_with fail
      exact bodyPost_ret (v := .agg #[.int .i64 s.c, .int .i64 s.m, .int .i64 s.p]) (by simp [results, Tryd.results12, go_sem, r0, r1, r2]) rfl ⟨by rw [SN.out], below_set3 BR.out (Nat.le_refl _) _ _ _⟩
set_option maxHeartbeats 4000000 in
set_option maxRecDepth 20000 in
theorem rtextV_any (v : V3) (hv : v.I) : Calls Tryd.prog 9 #[.agg #[.int .i64 v.c, .int .i64 v.m, .int .i64 v.p]] w (Made (.string (textV v)) w) := by
  obtain ⟨h1, h2, h3⟩ := hv
  have s1 := itoaB_size _ h1
  have s2 := itoaB_size _ h2
  have s3 := itoaB_size _ h3
  have E := Lib.hid (show textV v = (((((⟨#[99, 112, 117, 61]⟩ ++ itoaB v.c) ++ ⟨#[32, 109, 101, 109, 61]⟩) ++ itoaB v.m) ++ ⟨#[32, 112, 111, 100, 115, 61]⟩) ++ itoaB v.p) from rfl)
  rw [E.out]
  have G1 := Lib.hid (show ∀ W, Calls Tryd.prog 24 #[.int .i64 v.c] W (Made (.string (itoaB v.c)) W) from fun W => drdigs W v.c h1)
  have G2 := Lib.hid (show ∀ W, Calls Tryd.prog 24 #[.int .i64 v.m] W (Made (.string (itoaB v.m)) W) from fun W => drdigs W v.m h2)
  have G3 := Lib.hid (show ∀ W, Calls Tryd.prog 24 #[.int .i64 v.p] W (Made (.string (itoaB v.p)) W) from fun W => drdigs W v.p h3)
  clear h1 h2 h3
  generalize hc : itoaB v.c = cs at *
  generalize hm : itoaB v.m = ms at *
  generalize hp : itoaB v.p = ps at *
  clear hc hm hp
  have n1 : ¬ 9223372036854775807 < 4 + cs.size := by omega
  have n2 : ¬ 9223372036854775807 < 4 + cs.size + 5 := by omega
  have n3 : ¬ 9223372036854775807 < 4 + cs.size + 5 + ms.size := by omega
  have n4 : ¬ 9223372036854775807 < 4 + cs.size + 5 + ms.size + 6 := by omega
  have n5 : ¬ 9223372036854775807 < 4 + cs.size + 5 + ms.size + 6 + ps.size := by omega
  go_enter Tryd.func9, Tryd.ntmps9
  go_wp2_with fail
  have B0 := Lib.hid (below_al (Below.refl w.heap.size w) (.cells #[.int .i64 v.c, .int .i64 v.m, .int .i64 v.p] 23))
  obtain ⟨q0, q1, q2, -⟩ := (CBlk.new w v).cells
  refine wp_region_mono (by kernel_rfl) (by kernel_rfl) ?_
  simp only [List.map_cons, List.map_nil]
  repeat (first
    | (apply wpM_is
       · (intro us W hW hg K hK
          clear hg
          have c0 := hold hW q0
          have c1 := hold hW q1
          have c2 := hold hW q2
          simp only [fillA]
          go_simp
          first
          | exact hK _ (Below.refl _ _)
          | ((with_reducible refine (G1.out _).mono ?_); rintro e w' ⟨rfl, hb⟩; exact hK _ hb)
          | ((with_reducible refine (G2.out _).mono ?_); rintro e w' ⟨rfl, hb⟩; exact hK _ hb)
          | ((with_reducible refine (G3.out _).mono ?_); rintro e w' ⟨rfl, hb⟩; exact hK _ hb))
       simp only [setD, List.set_cons_zero, List.set_cons_succ]))
  intro us W hW hg
  simp only [fillA]
  clear hg
  go_wp2_with fail
  go_ret
  exact ⟨rfl, below_tr B0.out hW⟩
theorem may_upto {v : V3} (h : mayV v = true) : (0 ≤ v.c ∧ v.c ≤ 1099511627776) ∧ (0 ≤ v.m ∧ v.m ≤ 1099511627776) ∧ (0 ≤ v.p ∧ v.p ≤ 1099511627776) := by
  unfold mayV at h
  simp only [Bool.and_eq_true, leV_iff] at h
  simp only [z3, mostV] at h
  omega
set_option maxHeartbeats 16000000 in
set_option maxRecDepth 100000 in
theorem law_vecall (a b c : V3) (ia : a.I) (ht : TabOK w) :
    Calls Tryd.prog 3 #[.agg #[.int .i64 a.c, .int .i64 a.m, .int .i64 a.p], .agg #[.int .i64 b.c, .int .i64 b.m, .int .i64 b.p], .agg #[.int .i64 c.c, .int .i64 c.m, .int .i64 c.p]] w (Made (.bool true) w) := by
  have T1 := Lib.hid (fun W (hW : Below w.heap.size w W) => vtext_any W a ia (ht.below hW))
  have T2 := Lib.hid (fun W => rtextV_any W a ia)
  have Y1 := Lib.hid (fun W => vmay_any W a)
  have Y2 := Lib.hid (fun W => rmay_any W a)
  have Y3 := Lib.hid (fun W => rmay_any W b)
  have Y4 := Lib.hid (fun W => rmay_any W c)
  have W1 := Lib.hid (fun W (hW : Below w.heap.size w W) => law10_awake W (ht.below hW))
  have UA := Lib.hid (fun (h : mayV a = true) => may_upto h)
  have UB := Lib.hid (fun (h : mayV b = true) => may_upto h)
  have UC := Lib.hid (fun (h : mayV c = true) => may_upto h)
  clear ht ia
  generalize textV a = ta at *
  generalize mayV a = ma at *
  generalize mayV b = mb at *
  generalize mayV c = mc at *
  go_enter Tryd.func3, Tryd.ntmps3
  go_wp2_with fail
  have BA := Lib.hid (((CBlk.new w a).al (.cells #[.int .i64 b.c, .int .i64 b.m, .int .i64 b.p] 23)).al (.cells #[.int .i64 c.c, .int .i64 c.m, .int .i64 c.p] 23))
  have BB := Lib.hid ((show CBlk ((w.alloc (.cells #[.int .i64 a.c, .int .i64 a.m, .int .i64 a.p] 23)).alloc (.cells #[.int .i64 b.c, .int .i64 b.m, .int .i64 b.p] 23)) (w.heap.size + 1) b from heap_at (by simp)).al (.cells #[.int .i64 c.c, .int .i64 c.m, .int .i64 c.p] 23))
  have BC := Lib.hid (show CBlk (((w.alloc (.cells #[.int .i64 a.c, .int .i64 a.m, .int .i64 a.p] 23)).alloc (.cells #[.int .i64 b.c, .int .i64 b.m, .int .i64 b.p] 23)).alloc (.cells #[.int .i64 c.c, .int .i64 c.m, .int .i64 c.p] 23)) (w.heap.size + 1 + 1) c from heap_at (by simp))
  have B0 := Lib.hid (below_al (below_al (below_al (Below.refl w.heap.size w) (.cells #[.int .i64 a.c, .int .i64 a.m, .int .i64 a.p] 23)) (.cells #[.int .i64 b.c, .int .i64 b.m, .int .i64 b.p] 23)) (.cells #[.int .i64 c.c, .int .i64 c.m, .int .i64 c.p] 23))
  generalize ((w.alloc (.cells #[.int .i64 a.c, .int .i64 a.m, .int .i64 a.p] 23)).alloc (.cells #[.int .i64 b.c, .int .i64 b.m, .int .i64 b.p] 23)).alloc (.cells #[.int .i64 c.c, .int .i64 c.m, .int .i64 c.p] 23) = w1 at *
  obtain ⟨q0, q1, q2, ql⟩ := BA.out.cells
  refine wp_region_mono (by kernel_rfl) (by kernel_rfl) ?_
  simp only [List.map_cons, List.map_nil]
  repeat (first
    | (apply wpM_is
       · (intro us W hW hg K hK
          clear hg
          have c0 := hold hW q0
          have c1 := hold hW q1
          have c2 := hold hW q2
          simp only [fillA]
          go_simp
          first
          | exact hK _ (Below.refl _ _)
          | ((with_reducible refine (Y1.out _).mono ?_); rintro e w' ⟨rfl, hb⟩; exact hK _ hb)
          | ((with_reducible refine (Y2.out _).mono ?_); rintro e w' ⟨rfl, hb⟩; exact hK _ hb)
          | ((with_reducible refine (T1.out _ (below_tr B0.out hW)).mono ?_); rintro e w' ⟨rfl, hb⟩; exact hK _ hb)
          | ((with_reducible refine (T2.out _).mono ?_); rintro e w' ⟨rfl, hb⟩; exact hK _ hb))
       simp only [setD, List.set_cons_zero, List.set_cons_succ]))
  intro us W hW hg
  simp only [fillA]
  clear hg
  have B1 := Lib.hid (below_tr B0.out hW)
  obtain ⟨a0, a1, a2, al⟩ := (BA.out.below hW).cells
  obtain ⟨b0, b1, b2, bl⟩ := (BB.out.below hW).cells
  obtain ⟨c0, c1, c2, cl⟩ := (BC.out.below hW).cells
  clear hW q0 q1 q2 ql BA BB BC B0 T1 T2 Y1
  go_wp2_with fail
  have AW := Lib.hid (fun W' (hW : Below W.heap.size W W') => W1.out W' (below_tr B1.out hW))
  clear W1
  cases ma
  · with_reducible refine (Y2.out _).mono ?_
    rintro e w2 ⟨rfl, h2⟩
    go_wp2_with fail
    (with_reducible refine (AW.out _ h2).mono ?_)
    rintro e w3 ⟨rfl, h3⟩
    go_wp2_with fail
    go_ret
    exact ⟨rfl, below_tr (below_tr B1.out h2) h3⟩
  with_reducible refine (Y2.out _).mono ?_
  rintro e w2 ⟨rfl, h2⟩
  replace a0 := hold h2 a0
  replace a1 := hold h2 a1
  replace a2 := hold h2 a2
  replace b0 := hold h2 b0
  replace b1 := hold h2 b1
  replace b2 := hold h2 b2
  replace c0 := hold h2 c0
  replace c1 := hold h2 c1
  replace c2 := hold h2 c2
  have B2 := Lib.hid (below_tr B1.out h2)
  replace AW := Lib.hid (fun W' (hW : Below w2.heap.size w2 W') => AW.out W' (below_tr h2 hW))
  clear h2 al bl cl
  cases mb
  · go_wp2_with fail
    with_reducible refine (Y3.out _).mono ?_
    rintro e w3 ⟨rfl, h3⟩
    go_wp2_with fail
    (with_reducible refine (AW.out _ h3).mono ?_)
    rintro e w4 ⟨rfl, h4⟩
    go_wp2_with fail
    go_ret
    exact ⟨rfl, below_tr (below_tr B2.out h3) h4⟩
  go_wp2_with fail
  with_reducible refine (Y3.out _).mono ?_
  rintro e w3 ⟨rfl, h3⟩
  replace a0 := hold h3 a0
  replace a1 := hold h3 a1
  replace a2 := hold h3 a2
  replace b0 := hold h3 b0
  replace b1 := hold h3 b1
  replace b2 := hold h3 b2
  replace c0 := hold h3 c0
  replace c1 := hold h3 c1
  replace c2 := hold h3 c2
  have B3 := Lib.hid (below_tr B2.out h3)
  replace AW := Lib.hid (fun W' (hW : Below w3.heap.size w3 W') => AW.out W' (below_tr h3 hW))
  clear h3
  cases mc
  · go_wp2_with fail
    with_reducible refine (Y4.out _).mono ?_
    rintro e w4 ⟨rfl, h4⟩
    go_wp2_with fail
    (with_reducible refine (AW.out _ h4).mono ?_)
    rintro e w5 ⟨rfl, h5⟩
    go_wp2_with fail
    go_ret
    exact ⟨rfl, below_tr (below_tr B3.out h4) h5⟩
  go_wp2_with fail
  with_reducible refine (Y4.out _).mono ?_
  rintro e w4 ⟨rfl, h4⟩
  replace a0 := hold h4 a0
  replace a1 := hold h4 a1
  replace a2 := hold h4 a2
  replace b0 := hold h4 b0
  replace b1 := hold h4 b1
  replace b2 := hold h4 b2
  replace c0 := hold h4 c0
  replace c1 := hold h4 c1
  replace c2 := hold h4 c2
  have B4 := Lib.hid (below_tr B3.out h4)
  replace AW := Lib.hid (fun W' (hW : Below w4.heap.size w4 W') => AW.out W' (below_tr h4 hW))
  clear h4
  have ua := UA.out (by first | exact rfl | trivial)
  have ub := UB.out (by first | exact rfl | trivial)
  have uc := UC.out (by first | exact rfl | trivial)
  have up : ∀ v ∈ [a, b, c], v.Upto 4398046511104 := by
    simp only [List.mem_cons, List.not_mem_nil, or_false]
    rintro v (rfl | rfl | rfl) <;> unfold V3.Upto <;> omega
  have sI : (subV a b).I := by unfold V3.I subV; simp only; omega
  have A1 := Lib.hid (fun W lv h => vadd_any W [a, b, c] lv h (by simp) up)
  have A2 := Lib.hid (fun W lv h => raddall W [a, b, c] lv h (by simp) up)
  have S1 := Lib.hid (fun W => vsub_any W a b sI)
  have S2 := Lib.hid (fun W => rsub_any W a b sI)
  have L1 := Lib.hid (fun W => vle_any W a b)
  have L2 := Lib.hid (fun W => rle_any W a b)
  have X1 := Lib.hid (fun W lv h => pmax a [b, c] (max2V (max2V a b) c) rfl (by simp) W lv h)
  have X2 := Lib.hid (fun W => rmax_any W a b)
  have X3 := Lib.hid (fun W => rmax_any W (max2V a b) c)
  have O1 := Lib.hid (show ∀ W, Calls Tryd.prog 19 #[] W (Made (.agg #[.int .i64 1099511627776, .int .i64 1099511627776, .int .i64 1099511627776]) W) from fun W => vmost_any W)
  have O2 := Lib.hid (show ∀ W, Calls Tryd.prog 20 #[] W (Made (.agg #[.int .i64 1099511627776, .int .i64 1099511627776, .int .i64 1099511627776]) W) from fun W => rmost_any W)
  clear UA UB UC ua ub uc up sI Y2 Y3 Y4 B1 B2 B3
  generalize sumV [a, b, c] = s at *
  generalize max2V (max2V a b) c = m3 at *
  generalize max2V a b = m2 at *
  generalize subV a b = d at *
  generalize leV a b = lb at *
  go_wp2_with fail
  refine wp_region_mono (by kernel_rfl) (by kernel_rfl) ?_
  simp only [List.map_cons, List.map_nil]
  repeat (first
    | (apply wpM_is
       · (intro us W hW hg K hK
          clear hg
          have d0 := hold hW a0
          have d1 := hold hW a1
          have d2 := hold hW a2
          have d3 := hold hW b0
          have d4 := hold hW b1
          have d5 := hold hW b2
          have d6 := hold hW c0
          have d7 := hold hW c1
          have d8 := hold hW c2
          simp only [fillA]
          go_simp
          first
          | exact hK _ (Below.refl _ _))
       simp only [setD, List.set_cons_zero, List.set_cons_succ]))
  refine wpM_any (fun v W => VRow W [a, b, c] v) (fun v W W' h hb => h.below hb) ?_ ?_
  · intro us W hW hg K hK
    clear hg
    simp only [fillA]
    go_simp
    exact hK _ _ (row_new [a, b, c] (heap_alloc_new _ _)) (below_al (Below.refl _ _) _)
  simp only [setD, List.set_cons_zero, List.set_cons_succ]
  apply wpM_is
  · intro us W hW hg K hK
    have h0 := hg 36 (List.elem_iff.1 (by kernel_rfl)) _ rfl
    clear hg
    simp only [fillA]
    go_simp
    (with_reducible refine (A1.out _ _ h0).mono ?_)
    rintro e w' ⟨rfl, hb⟩
    exact hK _ hb
  simp only [setD, List.set_cons_zero, List.set_cons_succ]
  repeat (first
    | (apply wpM_is
       · (intro us W hW hg K hK
          clear hg
          have d0 := hold hW a0
          have d1 := hold hW a1
          have d2 := hold hW a2
          have d3 := hold hW b0
          have d4 := hold hW b1
          have d5 := hold hW b2
          have d6 := hold hW c0
          have d7 := hold hW c1
          have d8 := hold hW c2
          simp only [fillA]
          go_simp
          first
          | exact hK _ (Below.refl _ _))
       simp only [setD, List.set_cons_zero, List.set_cons_succ]))
  refine wpM_any (fun v W => VRow W [a, b, c] v) (fun v W W' h hb => h.below hb) ?_ ?_
  · intro us W hW hg K hK
    clear hg
    simp only [fillA]
    go_simp
    exact hK _ _ (row_new [a, b, c] (heap_alloc_new _ _)) (below_al (Below.refl _ _) _)
  simp only [setD, List.set_cons_zero, List.set_cons_succ]
  apply wpM_is
  · intro us W hW hg K hK
    have h0 := hg 41 (List.elem_iff.1 (by kernel_rfl)) _ rfl
    clear hg
    simp only [fillA]
    go_simp
    (with_reducible refine (A2.out _ _ h0).mono ?_)
    rintro e w' ⟨rfl, hb⟩
    exact hK _ hb
  simp only [setD, List.set_cons_zero, List.set_cons_succ]
  repeat (first
    | (apply wpM_is
       · (intro us W hW hg K hK
          clear hg
          have d0 := hold hW a0
          have d1 := hold hW a1
          have d2 := hold hW a2
          have d3 := hold hW b0
          have d4 := hold hW b1
          have d5 := hold hW b2
          have d6 := hold hW c0
          have d7 := hold hW c1
          have d8 := hold hW c2
          simp only [fillA]
          go_simp
          first
          | exact hK _ (Below.refl _ _)
          | ((with_reducible refine (S1.out _).mono ?_); rintro e w' ⟨rfl, hb⟩; exact hK _ hb)
          | ((with_reducible refine (S2.out _).mono ?_); rintro e w' ⟨rfl, hb⟩; exact hK _ hb)
          | ((with_reducible refine (L1.out _).mono ?_); rintro e w' ⟨rfl, hb⟩; exact hK _ hb)
          | ((with_reducible refine (L2.out _).mono ?_); rintro e w' ⟨rfl, hb⟩; exact hK _ hb))
       simp only [setD, List.set_cons_zero, List.set_cons_succ]))
  refine wpM_any (fun v W => VRow W [a, b, c] v) (fun v W W' h hb => h.below hb) ?_ ?_
  · intro us W hW hg K hK
    clear hg
    simp only [fillA]
    go_simp
    exact hK _ _ (row_new [a, b, c] (heap_alloc_new _ _)) (below_al (Below.refl _ _) _)
  simp only [setD, List.set_cons_zero, List.set_cons_succ]
  apply wpM_is
  · intro us W hW hg K hK
    have h0 := hg 66 (List.elem_iff.1 (by kernel_rfl)) _ rfl
    clear hg
    simp only [fillA]
    go_simp
    (with_reducible refine (X1.out _ _ h0).mono ?_)
    rintro e w' ⟨rfl, hb⟩
    exact hK _ hb
  simp only [setD, List.set_cons_zero, List.set_cons_succ]
  repeat (first
    | (apply wpM_is
       · (intro us W hW hg K hK
          clear hg
          have d0 := hold hW a0
          have d1 := hold hW a1
          have d2 := hold hW a2
          have d3 := hold hW b0
          have d4 := hold hW b1
          have d5 := hold hW b2
          have d6 := hold hW c0
          have d7 := hold hW c1
          have d8 := hold hW c2
          simp only [fillA]
          go_simp
          first
          | exact hK _ (Below.refl _ _)
          | ((with_reducible refine (X2.out _).mono ?_); rintro e w' ⟨rfl, hb⟩; exact hK _ hb)
          | ((with_reducible refine (X3.out _).mono ?_); rintro e w' ⟨rfl, hb⟩; exact hK _ hb)
          | ((with_reducible refine (O1.out _).mono ?_); rintro e w' ⟨rfl, hb⟩; exact hK _ hb)
          | ((with_reducible refine (O2.out _).mono ?_); rintro e w' ⟨rfl, hb⟩; exact hK _ hb)
          | ((with_reducible refine (AW.out _ hW).mono ?_); rintro e w' ⟨rfl, hb⟩; exact hK _ hb))
       simp only [setD, List.set_cons_zero, List.set_cons_succ]))
  intro us W hW hg
  simp only [fillA]
  clear hg
  go_wp2_with fail
  go_ret
  exact ⟨rfl, below_tr B4.out hW⟩
end
end Go.Proofs.YtjoakpgcflhfnaaDoor
