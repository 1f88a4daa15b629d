/- Package tree: is Sub what is in use, and has it room. -/
import Derived.Test.YtjhakingdadfaaaTrP
import Derived.Test.YtjhakingdadfaaaVecN
namespace Go.Proofs.Ytjhakingdadfaaa
open Go.RowKit
set_option linter.unusedVariables false
set_option linter.unusedSimpArgs false
def subI (l : List I12) (i : Nat) : V3 := match l[i]? with | some x => x.sub | none => z3
/-- v, and what those at these places have. -/
def sumK (l : List I12) (v : V3) (ks : List Nat) : V3 := ks.foldl (fun v i => addV v (subI l i)) v
theorem sumK_snoc (l : List I12) (v : V3) (ks : List Nat) (i : Nat) : sumK l v (ks ++ [i]) = addV (sumK l v ks) (subI l i) := by unfold sumK; rw [List.foldl_append]; rfl
theorem sumK_kids {l : List I12} (x : I12) : ∀ k, k ≤ l.length → sumK l x.own (kidsT l x.name k) = subTo l x k
  | 0, _ => by simp [sumK, kidsT, subTo]
  | k + 1, h => by
    have hx := List.getElem?_eq_getElem (show k < l.length by omega)
    rw [kidsT_step hx, subTo_step hx]
    split
    · rw [sumK_snoc, sumK_kids x k (by omega)]
      unfold subI; rw [hx]
    · exact sumK_kids x k (by omega)
theorem subI_upto {l : List I12} (hm : ∀ y ∈ l, mayV y.sub = true) (i : Nat) : (subI l i).Upto 1099511627776 := by
  unfold subI
  split
  · rename_i x hx
    have := may_bounds (hm x (List.mem_of_getElem? hx))
    unfold V3.Upto; omega
  · unfold V3.Upto z3; simp only; omega
theorem sumK_upto {l : List I12} {v : V3} (hv : mayV v = true) (hm : ∀ y ∈ l, mayV y.sub = true) : ∀ (ks : List Nat) (j : Nat), j ≤ ks.length → (sumK l v (ks.take j)).Upto (((j : Int) + 1) * 1099511627776)
  | ks, 0, _ => by
    have := may_bounds hv
    simp only [List.take_zero, sumK, List.foldl_nil, V3.Upto]
    omega
  | ks, j + 1, h => by
    have ih := sumK_upto hv hm ks j (by omega)
    have hx := List.getElem?_eq_getElem (show j < ks.length by omega)
    rw [List.take_add_one, hx]
    simp only [Option.toList_some]
    rw [sumK_snoc]
    have hb := subI_upto hm ks[j]
    unfold V3.Upto addV at *
    simp only
    omega
theorem sumK_step {l : List I12} {v : V3} {ks : List Nat} {j i : Nat} {x : I12} (hj : ks[j]? = some i) (hx : l[i]? = some x) : sumK l v (ks.take (j + 1)) = addV (sumK l v (ks.take j)) x.sub := by
  rw [List.take_add_one, hj]
  simp only [Option.toList_some]
  rw [sumK_snoc]
  unfold subI; rw [hx]
theorem self_may {x : I12} (h : selfB x = true) : mayV x.own = true ∧ mayV x.sub = true := by
  unfold selfB at h
  simp only [Bool.and_eq_true] at h
  exact ⟨h.2.2.2.2.1, h.2.2.2.2.2⟩
section
variable (w : World)
set_option maxHeartbeats 16000000 in
set_option maxRecDepth 20000 in
theorem paddT (l : List I12) (lv : Value) (h : IRow w l lv) (hl : l.length ≤ 200) (hz : ∀ u ∈ l, u.name.size ≤ 1000000 ∧ u.parent.size ≤ 1000000) (hself : ∀ x ∈ l, selfB x = true) (B g : Nat) (d : DataW Value) (V : ByteArray → Value) (hM : MapIn w B g l.length d V (fun s => kidsT l s l.length)) (bb : Bool) (hb1 : bb = true ↔ ∀ x ∈ l, sumB l x = true) :
    Calls Try.prog 23 #[.agg #[lv, .map (some g)]] w (Made (.bool bb) w) := by
  have HZ := Lib.hid hz
  have HSF := Lib.hid hself
  have HMY := Lib.hid (show ∀ y ∈ l, mayV y.sub = true from fun y hy => (self_may (hself y hy)).2)
  have HBB := Lib.hid hb1
  obtain ⟨ao, cap, rfl, h1, h2, hat⟩ := h
  have HAT := Lib.hid hat
  have BX := Lib.hid (below_al (Below.refl w.heap.size w) (.cells #[.slice ao l.length cap, .map (some g)] 43))
  have NX := Lib.hid (heap_alloc_new w (.cells #[.slice ao l.length cap, .map (some g)] 43))
  have MX := Lib.hid (hM.alloc (.cells #[.slice ao l.length cap, .map (some g)] 43))
  clear hat h1 h2 hz hself hM hb1
  go_enter Try.func23, Try.ntmps23
  go_wp2_with fail
  generalize hqb : w.heap.size = qb at *
  generalize w.alloc (.cells #[.slice ao l.length cap, .map (some g)] 43) = wb at *
  have HQB := Lib.hid hqb
  clear hqb
  go_loopg [11] l.length (fun m iv wr => ∃ k : Nat, iv = .int .i64 k ∧ l.length - k ≤ m ∧ k ≤ l.length ∧ Below wb.heap.size wb wr ∧ Hid (∀ j y, j < k → l[j]? = some y → sumB l y = true))
  case atStart => exact ⟨0, rfl, Nat.le_refl _, Nat.zero_le _, Below.refl _ _, Lib.hid (fun j y hj => by omega)⟩
  case round =>
    obtain ⟨k, rfl, hm, hk, hb, OK⟩ := hrel
    have HM := Lib.hid hm
    have BR := Lib.hid hb
    clear hm hb
    have BWR := Lib.hid (show Below w.heap.size w wr from by rw [HQB.out]; exact (BX.out.trans (BR.out.mono (by have := BX.out.size; have := HQB.out; omega))))
    by_cases hlt : k < l.length
    · obtain ⟨u, hu⟩ : ∃ u, l[k]? = some u := ⟨_, List.getElem?_eq_getElem hlt⟩
      have HU := Lib.hid hu
      obtain ⟨gx, o, rfl, hc⟩ := HAT.out k u hu
      obtain ⟨k0, k1, k2, k3, k4, k5, k6, k7, k8, k9, k10, k11⟩ := hc.below BWR.out
      have NO := Lib.hid (show sumB l u = false → bb = false from fun h => Bool.eq_false_iff.2 (fun e => by
        have := HBB.out.1 e u (List.mem_of_getElem? HU.out)
        rw [h] at this; cases this))
      have YES := Lib.hid (show sumB l u = true → ∀ j y, j < k + 1 → l[j]? = some y → sumB l y = true from fun h j y hj hy => by
        by_cases e : j = k
        · subst e
          obtain rfl : u = y := Option.some.inj (HU.out.symm.trans hy)
          exact h
        · exact OK.out j y (by omega) hy)
      have NS := Lib.hid (show u.name.size ≤ maxLen by have := (HZ.out u (List.mem_of_getElem? hu)).1; unfold maxLen; omega)
      have AMU := Lib.hid (self_may (HSF.out u (List.mem_of_getElem? hu))).1
      have NBR := Lib.hid ((BR.out.block qb (Array.getElem?_eq_some_iff.1 NX.out).1).trans NX.out)
      have b1 := hold (below_al (below_al (Below.refl wr.heap.size wr) (.cells #[.string u.name, .string u.parent, .int .i64 u.lim.c, .int .i64 u.lim.m, .int .i64 u.lim.p, .int .i64 u.own.c, .int .i64 u.own.m, .int .i64 u.own.p, .int .i64 u.sub.c, .int .i64 u.sub.m, .int .i64 u.sub.p, .int .i64 u.ver] 32)) (.cells #[.int .i64 u.own.c, .int .i64 u.own.m, .int .i64 u.own.p] 30)) (show wr.cell? ⟨qb, 1, none⟩ = some (.map (some g)) from (cell_of_row _ _ 1 _ _ _ NBR.out).trans rfl)
      have BI := Lib.hid (below_al BR.out (.cells #[.string u.name, .string u.parent, .int .i64 u.lim.c, .int .i64 u.lim.m, .int .i64 u.lim.p, .int .i64 u.own.c, .int .i64 u.own.m, .int .i64 u.own.p, .int .i64 u.sub.c, .int .i64 u.sub.m, .int .i64 u.sub.p, .int .i64 u.ver] 32))
      have BY := Lib.hid (below_al BI.out (.cells #[.int .i64 u.own.c, .int .i64 u.own.m, .int .i64 u.own.p] 30))
      have NI := Lib.hid (heap_alloc_new wr (.cells #[.string u.name, .string u.parent, .int .i64 u.lim.c, .int .i64 u.lim.m, .int .i64 u.lim.p, .int .i64 u.own.c, .int .i64 u.own.m, .int .i64 u.own.p, .int .i64 u.sub.c, .int .i64 u.sub.m, .int .i64 u.sub.p, .int .i64 u.ver] 32))
      have LM := Lib.hid (MX.out.at' u.name)
      have lk := look_below (W := (wr.alloc (.cells #[.string u.name, .string u.parent, .int .i64 u.lim.c, .int .i64 u.lim.m, .int .i64 u.lim.p, .int .i64 u.own.c, .int .i64 u.own.m, .int .i64 u.own.p, .int .i64 u.sub.c, .int .i64 u.sub.m, .int .i64 u.sub.p, .int .i64 u.ver] 32)).alloc (.cells #[.int .i64 u.own.c, .int .i64 u.own.m, .int .i64 u.own.p] 30)) (ownsMap_below MX.out.map (BY.out.block g MX.out.lt)) NS.out LM.out
      have KR := Lib.hid (MX.out.row u.name)
      obtain ⟨vo, vc, hV⟩ := own_shape (MX.out.row u.name)
      rw [hV] at lk KR
      have KL := Lib.hid (kidsT_len l u.name l.length)
      have KLT := Lib.hid (show ∀ i ∈ kidsT l u.name l.length, i < l.length from fun i hi => (kidsT_mem.1 hi).1)
      have KS := Lib.hid (sumK_kids u l.length (Nat.le_refl _))
      clear hu hc hV OK
      generalize kidsT l u.name l.length = ks at *
      have kl : ks.length ≤ 1000 := by have := KL.out; omega
      go_wp2_with fail
      have WB := Lib.hid (show IBlk ((wr.alloc (.cells #[.string u.name, .string u.parent, .int .i64 u.lim.c, .int .i64 u.lim.m, .int .i64 u.lim.p, .int .i64 u.own.c, .int .i64 u.own.m, .int .i64 u.own.p, .int .i64 u.sub.c, .int .i64 u.sub.m, .int .i64 u.sub.p, .int .i64 u.ver] 32)).alloc (.cells #[.int .i64 u.own.c, .int .i64 u.own.m, .int .i64 u.own.p] 30)) wr.heap.size u from (IBlk.new wr u).below (below_al (Below.refl _ _) _))
      have SB := Lib.hid (show CBlk ((wr.alloc (.cells #[.string u.name, .string u.parent, .int .i64 u.lim.c, .int .i64 u.lim.m, .int .i64 u.lim.p, .int .i64 u.own.c, .int .i64 u.own.m, .int .i64 u.own.p, .int .i64 u.sub.c, .int .i64 u.sub.m, .int .i64 u.sub.p, .int .i64 u.ver] 32)).alloc (.cells #[.int .i64 u.own.c, .int .i64 u.own.m, .int .i64 u.own.p] 30)) (wr.heap.size + 1) u.own from heap_at (by simp))
      clear NI BI k0 k1 k2 k3 k4 k5 k6 k7 k8 k9 k10 k11 b1 lk
      have LO := Lib.hid BR.out.size
      generalize hwz : wr.heap.size = wz at *
      generalize hgen : (wr.alloc (.cells #[.string u.name, .string u.parent, .int .i64 u.lim.c, .int .i64 u.lim.m, .int .i64 u.lim.p, .int .i64 u.own.c, .int .i64 u.own.m, .int .i64 u.own.p, .int .i64 u.sub.c, .int .i64 u.sub.m, .int .i64 u.sub.p, .int .i64 u.ver] 32)).alloc (.cells #[.int .i64 u.own.c, .int .i64 u.own.m, .int .i64 u.own.p] 30) = wy at *
      clear hgen hwz
      go_loopg [23] ks.length (fun m iv ws => ∃ j : Nat, iv = .int .i64 j ∧ ks.length - j ≤ m ∧ j ≤ ks.length ∧ Below wb.heap.size wb ws ∧ IBlk ws wz u ∧ CBlk ws (wz + 1) (sumK l u.own (ks.take j)))
      case atStart => exact ⟨0, rfl, Nat.le_refl _, Nat.zero_le _, BY.out, WB.out, SB.out⟩
      case round =>
        obtain ⟨j, rfl, hm2, hj, hb2, hw2, hc2⟩ := hrel
        have HM2 := Lib.hid hm2
        have BS := Lib.hid hb2
        have WS := Lib.hid hw2
        have CS := Lib.hid hc2
        clear hm2 hb2 hw2 hc2
        have BWS := Lib.hid (show Below w.heap.size w wr from by rw [HQB.out]; exact (BX.out.trans (BS.out.mono (by have := BX.out.size; have := HQB.out; omega))))
        have NBS := Lib.hid ((BS.out.block qb (Array.getElem?_eq_some_iff.1 NX.out).1).trans NX.out)
        obtain ⟨t0, t1, t2, tl⟩ := CS.out.cells
        by_cases hjl : j < ks.length
        · obtain ⟨i, hi⟩ : ∃ i, ks[j]? = some i := ⟨_, List.getElem?_eq_getElem hjl⟩
          have hil := KLT.out i (List.mem_of_getElem? hi)
          obtain ⟨y, hy⟩ : ∃ y, l[i]? = some y := ⟨_, List.getElem?_eq_getElem hil⟩
          obtain ⟨bk, rfl, q0'⟩ := own_cell KR.out hi
          have q0 := hold BS.out q0'
          obtain ⟨g', o', e', hat⟩ := HAT.out i y hy
          simp only [Option.some.injEq, Addr.mk.injEq, and_true] at e'
          obtain ⟨rfl, rfl⟩ := e'
          obtain ⟨y0, y1, y2, y3, y4, y5, y6, y7, y8, y9, y10, y11⟩ := hat.below BWS.out
          have b0 : wr.cell? ⟨qb, 0, none⟩ = some (.slice (some ⟨gx, o, none⟩) l.length cap) := (cell_of_row _ _ 0 _ _ _ NBS.out).trans rfl
          have EN := Lib.hid (sumK_step (v := u.own) hi hy)
          have UP := Lib.hid (sumK_upto AMU.out HMY.out ks j hj)
          have YB := Lib.hid (may_bounds (HMY.out y (List.mem_of_getElem? hy)))
          obtain ⟨s0, hs0⟩ : ∃ s0, s0 = sumK l u.own (ks.take j) := ⟨_, rfl⟩
          rw [← hs0] at EN UP CS t0 t1 t2
          have AD := Lib.hid (show ∀ W lv, VRow W [s0, y.sub] lv → Calls Try.prog 39 #[lv] W (Made (.agg #[.int .i64 (addV s0 y.sub).c, .int .i64 (addV s0 y.sub).m, .int .i64 (addV s0 y.sub).p]) W) from fun W lv hr => by
            have := vadd_any W [s0, y.sub] lv hr (by simp) (by
              have := UP.out
              have := YB.out
              simp only [List.mem_cons, List.not_mem_nil, or_false]
              rintro v (rfl | rfl)
              · unfold V3.Upto at *; omega
              · unfold V3.Upto; omega)
            rwa [two_sum] at this)
          obtain ⟨s1, hs1⟩ : ∃ s1, s1 = addV s0 y.sub := ⟨_, rfl⟩
          rw [← hs1] at AD EN
          have x0 : (0 : Int) ≤ (i : Int) := by omega
          have x1 : (i : Int) < (l.length : Int) := by omega
          clear hi hy hat y0 y1 y2 y3 y4 y5 y6 y7 y11 q0' UP YB hs0 hs1
          go_wp2_with fail
          refine wp_region_mono_tail 9 (by kernel_rfl) (by kernel_rfl) (Nat.le_of_ble_eq_true (by kernel_rfl)) (by kernel_rfl) ?_
          simp only [List.map_cons, List.map_nil]
          simp only [List.take_succ_cons, List.take_zero, List.drop_succ_cons, List.drop_zero]
          repeat (first
            | (apply wpM_is
               · (intro us W hW hg K hK
                  clear hg
                  have d0 := hold hW t0
                  have d1 := hold hW t1
                  have d2 := hold hW t2
                  have d3 := hold hW b0
                  have d4 := hold hW y8
                  have d5 := hold hW y9
                  have d6 := hold hW y10
                  simp only [fillA]
                  go_simp
                  first
                  | exact hK _ (Below.refl _ _))
               simp only [setD, List.set_cons_zero, List.set_cons_succ]))
          refine wpM_any (fun v W => VRow W [s0, y.sub] v) (fun v W W' h hb => h.below hb) ?_ ?_
          · intro us W hW hg K hK
            clear hg
            simp only [fillA]
            go_simp
            exact hK _ _ (vrow_new [s0, y.sub] (heap_alloc_new _ _)) (below_al (Below.refl _ _) _)
          simp only [setD, List.set_cons_zero, List.set_cons_succ]
          apply wpM_is
          · intro us W hW hg K hK
            have h0 := hg 34 (List.elem_iff.1 (by kernel_rfl)) _ rfl
            clear hg
            simp only [fillA]
            go_simp
            (with_reducible refine (AD.out _ _ h0).mono ?_)
            rintro e w' ⟨rfl, hb⟩
            exact hK _ hb
          simp only [setD, List.set_cons_zero, List.set_cons_succ]
          intro us W hW hg
          simp only [fillA]
          clear hg
          have BW := Lib.hid (BS.out.trans (hW.mono BS.out.size))
          have TW := Lib.hid (CS.out.below hW)
          have WW := Lib.hid (WS.out.below hW)
          obtain ⟨e0, e1, e2, el⟩ := TW.out.cells
          have f0 := TW.out.free 0
          have f1 := TW.out.free 1
          have f2 := TW.out.free 2
          clear hW t0 t1 t2 tl y8 y9 y10 q0 b0
          go_wp2_with fail
          go_roundg (ks.length - (j + 1))
          case rel => exact ⟨j + 1, by go_num, Nat.le_refl _, hjl, below_set3 BW.out (by have := LO.out; omega) _ _ _, by
            unfold IBlk
            rw [heap_setCell_other _ ⟨wz + 1, 2, none⟩ wz _ (by show wz ≠ wz + 1; omega), heap_setCell_other _ ⟨wz + 1, 1, none⟩ wz _ (by show wz ≠ wz + 1; omega), heap_setCell_other _ ⟨wz + 1, 0, none⟩ wz _ (by show wz ≠ wz + 1; omega)]
            exact WW.out, by rw [EN.out]; exact TW.out.set s1⟩
          case measure => have := HM2.out; omega
        · obtain rfl : j = ks.length := by omega
          obtain ⟨sv, hsv⟩ : ∃ sv, sv = subTo l u l.length := ⟨_, rfl⟩
          rw [List.take_length, KS.out, ← hsv] at CS t0 t1 t2
          obtain ⟨u0, u1, u2, u3, u4, u5, u6, u7, u8, u9, u10, u11⟩ := WS.out.cells
          simp only [Nat.zero_add] at u0 u1 u2 u3 u4 u5 u6 u7 u8 u9 u10 u11
          have LE := Lib.hid (fun W => vle_any W u.sub u.lim)
          have SU := Lib.hid (show sumB l u = (eqV sv u.sub && leV u.sub u.lim) from by unfold sumB; rw [← hsv])
          clear hsv
          by_cases hq : sv = u.sub
          · subst hq
            have S2 := Lib.hid (show sumB l u = leV u.sub u.lim from by rw [SU.out, eqV_iff.2 rfl, Bool.true_and])
            clear SU
            generalize leV u.sub u.lim = bq at *
            cases bq with
            | false =>
              have R := Lib.hid (NO.out S2.out)
              clear NO YES S2
              go_wp2_with fail
              with_reducible refine (LE.out _).mono ?_
              rintro e w5 ⟨rfl, h5⟩
              have BE := Lib.hid (show Below w.heap.size w w5 from below_tr BWS.out h5)
              clear h5
              go_wp2_with fail
              go_ret
              exact ⟨by rw [R.out]; rfl, BE.out⟩
            | true =>
              have NX2 := Lib.hid (YES.out S2.out)
              clear NO YES S2
              go_wp2_with fail
              with_reducible refine (LE.out _).mono ?_
              rintro e w5 ⟨rfl, h5⟩
              have BE := Lib.hid (BS.out.trans (h5.mono BS.out.size))
              clear h5
              go_wp2_with fail
              go_roundg (l.length - (k + 1))
              case rel => exact ⟨k + 1, by go_num, Nat.le_refl _, hlt, BE.out, NX2⟩
              case measure => have := HM.out; omega
          · have R := Lib.hid (NO.out (by
              rw [SU.out]
              cases he : eqV sv u.sub with
              | false => rfl
              | true => exact absurd (eqV_iff.1 he) hq))
            have NE : sv.c ≠ u.sub.c ∨ sv.m ≠ u.sub.m ∨ sv.p ≠ u.sub.p := by
              refine Classical.byContradiction fun hno => hq (eqV_iff.1 ?_)
              unfold eqV
              simp only [Bool.and_eq_true, decide_eq_true_eq]
              omega
            clear hq SU NO YES
            rcases NE with hne | hne | hne
            all_goals
              go_wp2_with fail
              all_goals
                go_ret
                exact ⟨by rw [R.out]; rfl, BWS.out⟩
    · obtain rfl : k = l.length := by omega
      have R := Lib.hid (HBB.out.2 (fun y hy => by
        obtain ⟨j, hj, rfl⟩ := List.mem_iff_getElem.1 hy
        exact OK.out j _ hj (List.getElem?_eq_getElem hj)))
      go_wp2_with fail
      go_ret
      exact ⟨by rw [R.out]; rfl, BWR.out⟩
end
end Go.Proofs.Ytjhakingdadfaaa
