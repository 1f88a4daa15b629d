/- Package room: Of, Tight, Share. -/
import Derived.Test.YtffmmoligdoclaaRmE
import Derived.Test.YtffmmoligdoclaaRmX
import Derived.Test.YtffmmoligdoclaaRmU
import Derived.Test.YtffmmoligdoclaaVecN
namespace Go.Proofs.Ytffmmoligdoclaa
open Go.RowKit
set_option linter.unusedVariables false
set_option linter.unusedSimpArgs false
theorem ok_len {l : List I12} {us : List ByteArray} (h : ∀ t ∈ us, ∃ x, look l t = some x) : okU us = decide (0 < (wayL l us).length) := by
  have e := congrArg List.length (wayL_all h).1
  rw [List.length_map] at e
  rw [e]
  cases us with
  | nil => rfl
  | cons t r => simp [okU]
set_option maxHeartbeats 8000000 in
set_option maxRecDepth 20000 in
theorem room_of : OfC := fun w l lv s h hr hs => by
  have UF : ∀ t ∈ upI l s, ∃ x, look l t = some x := fun t ht => by obtain ⟨_, x, _, _, hx⟩ := up_found ht; exact ⟨x, hx⟩
  have UP := Lib.hid (fun W (hW : Below w.heap.size w W) => pwayUp W l lv (h.below hW) hr s)
  have WF := Lib.hid (show ∀ x ∈ wayL l (upI l s), FitV (freeV x) from fun x hx => free_fit hr ((wayL_all UF).2 x hx))
  have WL := Lib.hid (show (wayL l (upI l s)).length ≤ 1000 from Nat.le_trans (wayL_len _ _) (by have := hr.up s; have := hr.len; omega))
  have OK := Lib.hid (ok_len UF)
  have LR := Lib.hid (show leastL (wayL l (upI l s)) = roomV l s from least_room UF)
  generalize roomV l s = v at *
  generalize okU (upI l s) = ok at *
  generalize wayL l (upI l s) = ws at *
  have BX := Lib.hid (below_al (Below.refl w.heap.size w) (.cells #[.int .i64 0, .int .i64 0, .int .i64 0] 27))
  have T0 := Lib.hid (CBlk.new w z3)
  simp only [z3] at T0
  clear h UF
  go_enter Try.func11, Try.ntmps11
  go_wp2_with fail
  with_reducible refine (UP.out _ BX.out).mono ?_
  rintro e w1 ⟨wv, rfl, hb1, ho1⟩
  have B1 := Lib.hid (below_tr BX.out hb1)
  have T1 := Lib.hid (show CBlk w1 w.heap.size z3 from CBlk.below T0.out hb1)
  have NA := Lib.hid (fun W (hW : Below w1.heap.size w1 W) => pnarrowed W ws wv ((irow_of_own ho1).below hW) WL.out WF.out)
  obtain ⟨wo, wc, rfl⟩ := (irow_of_own ho1).shape
  clear hb1 ho1
  go_wp2_with fail
  with_reducible refine (NA.out _ (Below.refl _ _)).mono ?_
  rintro e w2 ⟨wv', rfl, hb2, hr2⟩
  rw [LR.out]
  have B2 := Lib.hid (below_tr B1.out hb2)
  have T2 := Lib.hid (T1.out.below hb2)
  obtain ⟨ao, cap, rfl⟩ := hr2.shape
  have NW := Lib.hid (NwBlk.new w2 (.slice ao ws.length cap) v)
  have BN := Lib.hid (below_al (Below.refl w2.heap.size w2) (.cells #[.slice ao ws.length cap, .int .i64 v.c, .int .i64 v.m, .int .i64 v.p] 54))
  have T3 := Lib.hid (T2.out.below BN.out)
  have B3 := Lib.hid (below_tr B2.out BN.out)
  obtain ⟨n0, n1, n2, n3⟩ := NW.out.cells
  obtain ⟨e0, e1, e2, el⟩ := T3.out.cells
  have f0 := T3.out.free 0
  have f1 := T3.out.free 1
  have f2 := T3.out.free 2
  have NEB := Lib.hid (show w2.heap.size ≠ w.heap.size from by have := T2.out.lt; omega)
  clear hb2 hr2
  go_upto_region 2 with fail
  generalize w2.alloc (.cells #[.slice ao ws.length cap, .int .i64 v.c, .int .i64 v.m, .int .i64 v.p] 54) = w3 at *
  generalize w2.heap.size = bn at *
  obtain ⟨m0, m1, m2, m3⟩ := (NW.out.far NEB.out (.int .i64 v.c) (.int .i64 v.m) (.int .i64 v.p)).cells
  have SET := Lib.hid (T3.out.set v)
  have BS := Lib.hid (below_set3 B3.out (Nat.le_refl w.heap.size) (.int .i64 v.c) (.int .i64 v.m) (.int .i64 v.p))
  go_region_with fail
  all_goals
    generalize ((w3.setCell ⟨w.heap.size, 0, none⟩ (.int .i64 v.c)).setCell ⟨w.heap.size, 1, none⟩ (.int .i64 v.m)).setCell ⟨w.heap.size, 2, none⟩ (.int .i64 v.p) = wf at *
    obtain ⟨c0, c1, c2, -⟩ := SET.out.cells
    clear n0 n1 n2 n3 m0 m1 m2 m3 e0 e1 e2 el f0 f1 f2
    go_wp2_with fail
    exact bodyPost_ret (v := .tuple #[.agg #[.int .i64 v.c, .int .i64 v.m, .int .i64 v.p], .bool (decide (0 < ws.length))]) (by simp [results, Try.results11, go_sem, c0, c1, c2]) rfl ⟨by rw [OK.out], by first | exact BS.out | exact BS.out.drew⟩
set_option maxHeartbeats 8000000 in
set_option maxRecDepth 20000 in
theorem room_tight : TiC := fun w l lv s h hr hs => by
  have UF : ∀ t ∈ upI l s, ∃ x, look l t = some x := fun t ht => by obtain ⟨_, x, _, _, hx⟩ := up_found ht; exact ⟨x, hx⟩
  have UP := Lib.hid (pwayUp w l lv h hr s)
  have WF := Lib.hid (show ∀ x ∈ wayL l (upI l s), FitV (freeV x) from fun x hx => free_fit hr ((wayL_all UF).2 x hx))
  have WL := Lib.hid (show (wayL l (upI l s)).length ≤ 1000 from Nat.le_trans (wayL_len _ _) (by have := hr.up s; have := hr.len; omega))
  have LR := Lib.hid (show leastL (wayL l (upI l s)) = roomV l s from least_room UF)
  have TR := Lib.hid (show tightW (roomV l s) (wayL l (upI l s)) (wayL l (upI l s)).length = tightL l s from by
    unfold tightW tightL
    rw [List.take_length, tightW_way UF])
  generalize roomV l s = v at *
  generalize tightL l s = tl at *
  generalize wayL l (upI l s) = ws at *
  clear h UF
  go_enter Try.func14, Try.ntmps14
  go_wp2_with fail
  with_reducible refine UP.out.mono ?_
  rintro e w1 ⟨wv, rfl, hb1, ho1⟩
  have B1 := Lib.hid hb1
  have NA := Lib.hid (pnarrowed w1 ws wv (irow_of_own ho1) WL.out WF.out)
  obtain ⟨wo, wc, rfl⟩ := (irow_of_own ho1).shape
  clear hb1 ho1
  go_wp2_with fail
  with_reducible refine NA.out.mono ?_
  rintro e w2 ⟨wv', rfl, hb2, hr2⟩
  rw [LR.out]
  have B2 := Lib.hid (below_tr B1.out hb2)
  have TI := Lib.hid (pntight w2 ws wv' hr2 WL.out WF.out v)
  obtain ⟨ao, cap, rfl⟩ := hr2.shape
  clear hb2 hr2
  go_wp2_with fail
  with_reducible refine TI.out.mono ?_
  rintro e w3 ⟨tv, rfl, hb3, ho3⟩
  have B3 := Lib.hid (below_tr B2.out hb3)
  have O3 := Lib.hid (show StrsO w3 w.heap.size tv tl from by rw [← TR.out]; exact own_lower0 ho3 B2.out.size)
  clear hb3 ho3
  go_wp2_with fail
  go_ret
  exact ⟨_, rfl, B3.out, O3.out⟩
set_option maxHeartbeats 8000000 in
set_option maxRecDepth 20000 in
theorem room_share : ShC := fun w l lv ns nv h hr hn hl hs => by
  have ST := Lib.hid (fun W (hW : Below w.heap.size w W) => pset W ns nv (hn.below hW) hl hs)
  have HD := Lib.hid (fun W (hW : Below w.heap.size w W) g0 n0 (hS : SetIn W g0 n0 (fun x => x ∈ ns)) => pheads W l lv (h.below hW) hr ns g0 n0 hS)
  have HL := hr.len
  have DN := Lib.hid (fun P (hP : HS l ns P []) => HS.done hr hP)
  have MY := Lib.hid (fun P (hP : HS l ns P []) => head_may hr hP)
  have LN := Lib.hid (fun P (hP : HS l ns P []) => Nat.le_trans (headL_len ns P) (Nat.le_trans (Nat.le_add_right _ _) (hP.len hr)))
  obtain ⟨lo, lc, rfl⟩ := h.shape
  obtain ⟨no, nc, rfl⟩ := hn.shape
  have BX := Lib.hid (below_al (below_al (Below.refl w.heap.size w) (.cells #[.int .i64 0, .int .i64 0, .int .i64 0] 27)) (.cells #[.int .i64 0, .int .i64 0, .int .i64 0] 27))
  have T0 := Lib.hid (show CBlk ((w.alloc (.cells #[.int .i64 0, .int .i64 0, .int .i64 0] 27)).alloc (.cells #[.int .i64 0, .int .i64 0, .int .i64 0] 27)) w.heap.size z3 from (CBlk.new w z3).al _)
  have V0 := Lib.hid (show CBlk ((w.alloc (.cells #[.int .i64 0, .int .i64 0, .int .i64 0] 27)).alloc (.cells #[.int .i64 0, .int .i64 0, .int .i64 0] 27)) (w.heap.size + 1) z3 from heap_at (by simp))
  clear h hr hn
  go_enter Try.func16, Try.ntmps16
  go_wp2_with fail
  generalize hbr : w.heap.size = br at *
  generalize (w.alloc (.cells #[.int .i64 0, .int .i64 0, .int .i64 0] 27)).alloc (.cells #[.int .i64 0, .int .i64 0, .int .i64 0] 27) = w0 at *
  have HBR := Lib.hid hbr
  clear hbr
  with_reducible refine (ST.out _ BX.out).mono ?_
  rintro e w1 ⟨rfl, hb1, hs1⟩
  have G0 := Lib.hid (show br ≤ w0.heap.size from by have := BX.out.size; have := HBR.out; omega)
  have B1 := Lib.hid (BX.out.trans (hb1.mono G0.out))
  have T1 := Lib.hid (T0.out.below hb1)
  have V1 := Lib.hid (V0.out.below hb1)
  have S1 := Lib.hid hs1
  have G1 := Lib.hid (Nat.le_trans G0.out hb1.size)
  clear hb1 hs1
  go_wp2_with fail
  with_reducible refine (HD.out w1 B1.out _ _ S1.out).mono ?_
  rintro e w2 ⟨P, hv, rfl, hb2, hP, ho2⟩
  have B2 := Lib.hid (B1.out.trans (hb2.mono G1.out))
  have T2 := Lib.hid (T1.out.below hb2)
  have V2 := Lib.hid (V1.out.below hb2)
  have G2 := Lib.hid (Nat.le_trans G1.out hb2.size)
  have H2 := Lib.hid ho2
  have DN2 := Lib.hid (DN.out P hP)
  have MY2 := Lib.hid (MY.out P hP)
  have LN2 := LN.out P hP
  generalize headL ns P = hs at *
  obtain ⟨ho, hc, rfl⟩ := (irow_of_own H2.out).shape
  have GB := Lib.hid (show br + 1 < w1.heap.size from V1.out.lt)
  have OB := Lib.hid (show (Value.slice ho hs.length hc).ownBlock ≠ some (br + 1) from fun e => by have := (World.ownsRow.lt H2.out _ e).1; have := GB.out; omega)
  clear hb2 hP ho2 ST HD DN MY LN
  go_wp2_with fail
  go_loopg [13] hs.length (fun m iv wr => ∃ k : Nat, iv = .int .i64 (k : Int) ∧ hs.length - k ≤ m ∧ k ≤ hs.length ∧ Below br w wr ∧ IOwn wr w1.heap.size hs (.slice ho hs.length hc) ∧ CBlk wr br z3 ∧ CBlk wr (br + 1) (sumF (fun x => x.sub) (hs.take k)))
  case atStart => exact ⟨0, rfl, Nat.le_refl _, Nat.zero_le _, B2.out, H2.out, T2.out, V2.out⟩
  case round =>
    obtain ⟨k, rfl, hm, hk, hb, ho', ht, hv⟩ := hrel
    have HM := Lib.hid hm
    have BR := Lib.hid hb
    have OR := Lib.hid ho'
    have TR := Lib.hid ht
    have VR := Lib.hid hv
    clear hm hb ho' ht hv
    have BG := Lib.hid (show br ≤ wr.heap.size from by have := TR.out.lt; omega)
    by_cases hlt : k < hs.length
    · obtain ⟨y, hy⟩ : ∃ y, hs[k]? = some y := ⟨_, List.getElem?_eq_getElem hlt⟩
      have ym := List.mem_of_getElem? hy
      have SU := Lib.hid (subF_up MY2.out k hk)
      have YS := Lib.hid (may_bounds (MY2.out y ym))
      have STEP := Lib.hid (show sumF (fun x => x.sub) (hs.take (k + 1)) = addV (sumF (fun x => x.sub) (hs.take k)) y.sub from sumF_step hy)
      obtain ⟨s0, hs0⟩ : ∃ s0, s0 = sumF (fun x : I12 => x.sub) (hs.take k) := ⟨_, rfl⟩
      rw [← hs0] at SU STEP VR
      obtain ⟨gx, ox, eo, YA⟩ := (irow_of_own OR.out).at0 hy
      obtain rfl := eo
      obtain ⟨k0, k1, k2, k3, k4, k5, k6, k7, k8, k9, k10, k11⟩ := YA
      have y0 : (0 : Int) ≤ (k : Int) := by omega
      have y1 : (k : Int) < (hs.length : Int) := by omega
      clear hy ym hs0
      go_upto_region 5 with fail
      have BV := Lib.hid (below_al (Below.refl wr.heap.size wr) (.cells #[.string y.name, .string y.parent, .int .i64 y.lim.c, .int .i64 y.lim.m, .int .i64 y.lim.p, .int .i64 y.own.c, .int .i64 y.own.m, .int .i64 y.own.p, .int .i64 y.sub.c, .int .i64 y.sub.m, .int .i64 y.sub.p, .int .i64 y.ver] 40))
      have BA := Lib.hid (BR.out.trans (BV.out.mono BG.out))
      have NX := Lib.hid (heap_alloc_new wr (.cells #[.string y.name, .string y.parent, .int .i64 y.lim.c, .int .i64 y.lim.m, .int .i64 y.lim.p, .int .i64 y.own.c, .int .i64 y.own.m, .int .i64 y.own.p, .int .i64 y.sub.c, .int .i64 y.sub.m, .int .i64 y.sub.p, .int .i64 y.ver] 40))
      have p0 : (wr.alloc (.cells #[.string y.name, .string y.parent, .int .i64 y.lim.c, .int .i64 y.lim.m, .int .i64 y.lim.p, .int .i64 y.own.c, .int .i64 y.own.m, .int .i64 y.own.p, .int .i64 y.sub.c, .int .i64 y.sub.m, .int .i64 y.sub.p, .int .i64 y.ver] 40)).cell? ⟨wr.heap.size, 0, none⟩ = some (.string y.name) := by rw [cell_of_row _ _ 0 _ _ _ NX.out]; rfl
      have p1 : (wr.alloc (.cells #[.string y.name, .string y.parent, .int .i64 y.lim.c, .int .i64 y.lim.m, .int .i64 y.lim.p, .int .i64 y.own.c, .int .i64 y.own.m, .int .i64 y.own.p, .int .i64 y.sub.c, .int .i64 y.sub.m, .int .i64 y.sub.p, .int .i64 y.ver] 40)).cell? ⟨wr.heap.size, 1, none⟩ = some (.string y.parent) := by rw [cell_of_row _ _ 1 _ _ _ NX.out]; rfl
      have p2 : (wr.alloc (.cells #[.string y.name, .string y.parent, .int .i64 y.lim.c, .int .i64 y.lim.m, .int .i64 y.lim.p, .int .i64 y.own.c, .int .i64 y.own.m, .int .i64 y.own.p, .int .i64 y.sub.c, .int .i64 y.sub.m, .int .i64 y.sub.p, .int .i64 y.ver] 40)).cell? ⟨wr.heap.size, 2, none⟩ = some (.int .i64 y.lim.c) := by rw [cell_of_row _ _ 2 _ _ _ NX.out]; rfl
      have p3 : (wr.alloc (.cells #[.string y.name, .string y.parent, .int .i64 y.lim.c, .int .i64 y.lim.m, .int .i64 y.lim.p, .int .i64 y.own.c, .int .i64 y.own.m, .int .i64 y.own.p, .int .i64 y.sub.c, .int .i64 y.sub.m, .int .i64 y.sub.p, .int .i64 y.ver] 40)).cell? ⟨wr.heap.size, 3, none⟩ = some (.int .i64 y.lim.m) := by rw [cell_of_row _ _ 3 _ _ _ NX.out]; rfl
      have p4 : (wr.alloc (.cells #[.string y.name, .string y.parent, .int .i64 y.lim.c, .int .i64 y.lim.m, .int .i64 y.lim.p, .int .i64 y.own.c, .int .i64 y.own.m, .int .i64 y.own.p, .int .i64 y.sub.c, .int .i64 y.sub.m, .int .i64 y.sub.p, .int .i64 y.ver] 40)).cell? ⟨wr.heap.size, 4, none⟩ = some (.int .i64 y.lim.p) := by rw [cell_of_row _ _ 4 _ _ _ NX.out]; rfl
      have p5 : (wr.alloc (.cells #[.string y.name, .string y.parent, .int .i64 y.lim.c, .int .i64 y.lim.m, .int .i64 y.lim.p, .int .i64 y.own.c, .int .i64 y.own.m, .int .i64 y.own.p, .int .i64 y.sub.c, .int .i64 y.sub.m, .int .i64 y.sub.p, .int .i64 y.ver] 40)).cell? ⟨wr.heap.size, 5, none⟩ = some (.int .i64 y.own.c) := by rw [cell_of_row _ _ 5 _ _ _ NX.out]; rfl
      have p6 : (wr.alloc (.cells #[.string y.name, .string y.parent, .int .i64 y.lim.c, .int .i64 y.lim.m, .int .i64 y.lim.p, .int .i64 y.own.c, .int .i64 y.own.m, .int .i64 y.own.p, .int .i64 y.sub.c, .int .i64 y.sub.m, .int .i64 y.sub.p, .int .i64 y.ver] 40)).cell? ⟨wr.heap.size, 6, none⟩ = some (.int .i64 y.own.m) := by rw [cell_of_row _ _ 6 _ _ _ NX.out]; rfl
      have p7 : (wr.alloc (.cells #[.string y.name, .string y.parent, .int .i64 y.lim.c, .int .i64 y.lim.m, .int .i64 y.lim.p, .int .i64 y.own.c, .int .i64 y.own.m, .int .i64 y.own.p, .int .i64 y.sub.c, .int .i64 y.sub.m, .int .i64 y.sub.p, .int .i64 y.ver] 40)).cell? ⟨wr.heap.size, 7, none⟩ = some (.int .i64 y.own.p) := by rw [cell_of_row _ _ 7 _ _ _ NX.out]; rfl
      have p8 : (wr.alloc (.cells #[.string y.name, .string y.parent, .int .i64 y.lim.c, .int .i64 y.lim.m, .int .i64 y.lim.p, .int .i64 y.own.c, .int .i64 y.own.m, .int .i64 y.own.p, .int .i64 y.sub.c, .int .i64 y.sub.m, .int .i64 y.sub.p, .int .i64 y.ver] 40)).cell? ⟨wr.heap.size, 8, none⟩ = some (.int .i64 y.sub.c) := by rw [cell_of_row _ _ 8 _ _ _ NX.out]; rfl
      have p9 : (wr.alloc (.cells #[.string y.name, .string y.parent, .int .i64 y.lim.c, .int .i64 y.lim.m, .int .i64 y.lim.p, .int .i64 y.own.c, .int .i64 y.own.m, .int .i64 y.own.p, .int .i64 y.sub.c, .int .i64 y.sub.m, .int .i64 y.sub.p, .int .i64 y.ver] 40)).cell? ⟨wr.heap.size, 9, none⟩ = some (.int .i64 y.sub.m) := by rw [cell_of_row _ _ 9 _ _ _ NX.out]; rfl
      have p10 : (wr.alloc (.cells #[.string y.name, .string y.parent, .int .i64 y.lim.c, .int .i64 y.lim.m, .int .i64 y.lim.p, .int .i64 y.own.c, .int .i64 y.own.m, .int .i64 y.own.p, .int .i64 y.sub.c, .int .i64 y.sub.m, .int .i64 y.sub.p, .int .i64 y.ver] 40)).cell? ⟨wr.heap.size, 10, none⟩ = some (.int .i64 y.sub.p) := by rw [cell_of_row _ _ 10 _ _ _ NX.out]; rfl
      have p11 : (wr.alloc (.cells #[.string y.name, .string y.parent, .int .i64 y.lim.c, .int .i64 y.lim.m, .int .i64 y.lim.p, .int .i64 y.own.c, .int .i64 y.own.m, .int .i64 y.own.p, .int .i64 y.sub.c, .int .i64 y.sub.m, .int .i64 y.sub.p, .int .i64 y.ver] 40)).cell? ⟨wr.heap.size, 11, none⟩ = some (.int .i64 y.ver) := by rw [cell_of_row _ _ 11 _ _ _ NX.out]; rfl
      have OA := Lib.hid (show IOwn (wr.alloc (.cells #[.string y.name, .string y.parent, .int .i64 y.lim.c, .int .i64 y.lim.m, .int .i64 y.lim.p, .int .i64 y.own.c, .int .i64 y.own.m, .int .i64 y.own.p, .int .i64 y.sub.c, .int .i64 y.sub.m, .int .i64 y.sub.p, .int .i64 y.ver] 40)) w1.heap.size hs (.slice (some ⟨gx, ox, none⟩) hs.length hc) from World.ownsRow.alloc OR.out _)
      have TA := Lib.hid (TR.out.below BV.out)
      have VA := Lib.hid (VR.out.below BV.out)
      clear k0 k1 k2 k3 k4 k5 k6 k7 k8 k9 k10 k11 NX
      generalize hbx : wr.heap.size = bx at *
      generalize wr.alloc (.cells #[.string y.name, .string y.parent, .int .i64 y.lim.c, .int .i64 y.lim.m, .int .i64 y.lim.p, .int .i64 y.own.c, .int .i64 y.own.m, .int .i64 y.own.p, .int .i64 y.sub.c, .int .i64 y.sub.m, .int .i64 y.sub.p, .int .i64 y.ver] 40) = wx at *
      obtain ⟨v0, v1, v2, vl⟩ := VA.out.cells
      have AD := Lib.hid (vadd_any (wx.alloc (.cells #[.int .i64 s0.c, .int .i64 s0.m, .int .i64 s0.p, .int .i64 y.sub.c, .int .i64 y.sub.m, .int .i64 y.sub.p] 27)) [s0, y.sub] (.slice (some ⟨wx.heap.size, 0, none⟩) 2 2) (vrow_new [s0, y.sub] (heap_alloc_new wx _)) (by simp) (fun v hv => by
        have h1 := SU.out; have h2 := YS.out
        have h3 := LN2
        rcases List.mem_cons.1 hv with rfl | hv
        · unfold V3.Upto at *; omega
        · rcases List.mem_cons.1 hv with rfl | hv
          · unfold V3.Upto; omega
          · cases hv))
      rw [two_sum] at AD
      obtain ⟨s1, hs1⟩ : ∃ s1, s1 = addV s0 y.sub := ⟨_, rfl⟩
      rw [← hs1] at AD STEP
      clear hs1
      go_wp2_with fail
      with_reducible refine AD.out.mono ?_
      rintro e w6 ⟨rfl, hb6⟩
      have BT := Lib.hid (below_tr (below_al (Below.refl wx.heap.size wx) (.cells #[.int .i64 s0.c, .int .i64 s0.m, .int .i64 s0.p, .int .i64 y.sub.c, .int .i64 y.sub.m, .int .i64 y.sub.p] 27)) hb6)
      have B6 := Lib.hid (BA.out.trans (BT.out.mono (by have := BA.out.size; have := HBR.out; omega)))
      have O6 := Lib.hid (show IOwn w6 w1.heap.size hs (.slice (some ⟨gx, ox, none⟩) hs.length hc) from own_below OA.out BT.out)
      have T6 := Lib.hid (TA.out.below BT.out)
      have V6 := Lib.hid (VA.out.below BT.out)
      obtain ⟨e0, e1, e2, el⟩ := V6.out.cells
      have f0 := V6.out.free 0
      have f1 := V6.out.free 1
      have f2 := V6.out.free 2
      clear hb6 p0 p1 p2 p3 p4 p5 p6 p7 p8 p9 p10 p11 v0 v1 v2 vl
      go_wp2_with fail
      go_roundg (hs.length - (k + 1))
      case rel => exact ⟨k + 1, by go_num, Nat.le_refl _, hlt, below_set3 B6.out (Nat.le_succ _) _ _ _, ownsRow_setCell_other (ownsRow_setCell_other (ownsRow_setCell_other O6.out OB.out _) OB.out _) OB.out _, T6.out.far (Nat.ne_of_lt (Nat.lt_succ_self _)) _ _ _, by rw [STEP.out]; exact V6.out.set s1⟩
      case measure => have := HM.out; omega
    · obtain rfl : k = hs.length := by omega
      obtain ⟨e0, e1, e2, el⟩ := TR.out.cells
      have f0 := TR.out.free 0
      have f1 := TR.out.free 1
      have f2 := TR.out.free 2
      rw [List.take_length, DN2.out] at VR
      generalize shareV l ns = rv at *
      obtain ⟨g0, g1, g2, gl⟩ := VR.out.cells
      go_wp2_with fail
      have TS := TR.out.set rv
      have BF := Lib.hid (below_set3 BR.out (Nat.le_refl br) (.int .i64 rv.c) (.int .i64 rv.m) (.int .i64 rv.p))
      generalize ((wr.setCell ⟨br, 0, none⟩ (.int .i64 rv.c)).setCell ⟨br, 1, none⟩ (.int .i64 rv.m)).setCell ⟨br, 2, none⟩ (.int .i64 rv.p) = wf at *
      obtain ⟨c0, c1, c2, -⟩ := TS.cells
      exact bodyPost_ret (v := .agg #[.int .i64 rv.c, .int .i64 rv.m, .int .i64 rv.p]) (by simp [results, Try.results16, go_sem, c0, c1, c2]) rfl ⟨rfl, by rw [HBR.out]; exact BF.out⟩
end Go.Proofs.Ytffmmoligdoclaa
