/- Package room: what a node leaves free; the way up. -/
import Derived.Test.YtffmmoligdoclaaRmB
import Derived.Test.YtffmmoligdoclaaTrU
namespace Go.Proofs.Ytffmmoligdoclaa
open Go.RowKit
set_option linter.unusedVariables false
set_option linter.unusedSimpArgs false
/-- Those of these names. -/
def wayL (l : List I12) (us : List ByteArray) : List I12 := us.filterMap (look l)
theorem wayL_step {l : List I12} {us : List ByteArray} {k : Nat} {t : ByteArray} {x : I12} (h : us[k]? = some t) (hx : look l t = some x) : wayL l (us.take (k + 1)) = wayL l (us.take k) ++ [x] := by
  unfold wayL
  rw [List.take_add_one, h, List.filterMap_append]
  simp [hx]
theorem wayL_len (l : List I12) (us : List ByteArray) : (wayL l us).length ≤ us.length := List.length_filterMap_le ..
theorem wayL_all {l : List I12} {us : List ByteArray} (h : ∀ t ∈ us, ∃ x, look l t = some x) : (wayL l us).map (fun x => x.name) = us ∧ ∀ x ∈ wayL l us, x ∈ l := by
  induction us with
  | nil => exact ⟨rfl, fun x hx => by cases hx⟩
  | cons t r ih =>
    obtain ⟨x, hx⟩ := h t List.mem_cons_self
    obtain ⟨h1, h2⟩ := ih (fun t ht => h t (List.mem_cons_of_mem _ ht))
    obtain ⟨g1, g2⟩ := look_name hx
    have e : wayL l (t :: r) = x :: wayL l r := by unfold wayL; rw [List.filterMap_cons, hx]
    rw [e]
    refine ⟨by rw [List.map_cons, h1, g2], fun y hy => ?_⟩
    rcases List.mem_cons.1 hy with rfl | hy
    · exact g1
    · exact h2 y hy
section
variable (w : World)
set_option maxRecDepth 20000 in
theorem pleft (x : I12) (h : (freeV x).I) : Calls Try.prog 41 #[x.val] w (Made (.agg #[.int .i64 (freeV x).c, .int .i64 (freeV x).m, .int .i64 (freeV x).p]) w) := by
  have SB := Lib.hid (fun W => vsub_any W x.lim x.sub h)
  have BX := Lib.hid (below_al (below_al (Below.refl w.heap.size w) (.cells #[.string x.name, .string x.parent, .int .i64 x.lim.c, .int .i64 x.lim.m, .int .i64 x.lim.p, .int .i64 x.own.c, .int .i64 x.own.m, .int .i64 x.own.p, .int .i64 x.sub.c, .int .i64 x.sub.m, .int .i64 x.sub.p, .int .i64 x.ver] 40)) (.cells #[.int .i64 0, .int .i64 0, .int .i64 0] 27))
  have T0 := Lib.hid (show CBlk ((w.alloc (.cells #[.string x.name, .string x.parent, .int .i64 x.lim.c, .int .i64 x.lim.m, .int .i64 x.lim.p, .int .i64 x.own.c, .int .i64 x.own.m, .int .i64 x.own.p, .int .i64 x.sub.c, .int .i64 x.sub.m, .int .i64 x.sub.p, .int .i64 x.ver] 40)).alloc (.cells #[.int .i64 0, .int .i64 0, .int .i64 0] 27)) (w.heap.size + 1) z3 from heap_at (by simp))
  unfold I12.val I12.cells
  unfold freeV at *
  generalize hv : subV x.lim x.sub = v at *
  clear h hv
  go_enter Try.func41, Try.ntmps41
  go_wp2_with fail
  with_reducible refine (SB.out _).mono ?_
  rintro e w1 ⟨rfl, hb⟩
  have B1 := Lib.hid (below_tr BX.out hb)
  have T1 := Lib.hid (T0.out.below hb)
  obtain ⟨e0, e1, e2, el⟩ := T1.out.cells
  have f0 := T1.out.free 0
  have f1 := T1.out.free 1
  have f2 := T1.out.free 2
  clear hb
  go_wp2_with fail
  have TS := T1.out.set v
  have BF := Lib.hid (below_set3 B1.out (show w.heap.size ≤ w.heap.size + 1 by omega) (.int .i64 v.c) (.int .i64 v.m) (.int .i64 v.p))
  generalize ((w1.setCell ⟨w.heap.size + 1, 0, none⟩ (.int .i64 v.c)).setCell ⟨w.heap.size + 1, 1, none⟩ (.int .i64 v.m)).setCell ⟨w.heap.size + 1, 2, none⟩ (.int .i64 v.p) = wf at *
  obtain ⟨c0, c1, c2, -⟩ := TS.cells
  exact bodyPost_ret (v := .agg #[.int .i64 v.c, .int .i64 v.m, .int .i64 v.p]) (by simp [results, Try.results41, go_sem, c0, c1, c2]) rfl ⟨rfl, BF.out⟩
set_option maxHeartbeats 4000000 in
set_option maxRecDepth 20000 in
theorem pwayUp (l : List I12) (lv : Value) (h : IRow w l lv) (hr : RT l) (s : ByteArray) : Calls Try.prog 30 #[lv, .string s] w (MadeI (wayL l (upI l s)) w) := by
  have hl : l.length ≤ 120 := hr.len
  obtain ⟨i0, hi0, hz0, hz1, hz2⟩ := info_partsT info_item
  have H := Lib.hid h
  have RU := Lib.hid (show Calls Try.prog 42 #[lv, .string s] w (MadeStrs (upI l s) w) from by
    have := pUp w l lv h (by omega) hr.srt s
    rwa [up_same (hr.up s)] at this)
  have RF := Lib.hid (fun W (hW : Below w.heap.size w W) t => pFind W l lv (h.below hW) (by omega) hr.srt t)
  have UF := Lib.hid (fun t (ht : t ∈ upI l s) => up_found ht)
  have UL := Lib.hid (show (upI l s).length ≤ 120 from by have := hr.up s; omega)
  obtain ⟨ao, cap, rfl⟩ := h.shape
  clear h hr
  generalize upI l s = us at *
  go_enter Try.func30, Try.ntmps30
  go_wp2_with fail
  with_reducible refine RU.out.mono ?_
  rintro e w1 ⟨uv, rfl, hb1, ho1⟩
  have B1 := Lib.hid hb1
  have O1 := Lib.hid ho1
  obtain ⟨uo, uc, rfl⟩ := ho1.shape
  have u120 : us.length ≤ 120 := UL.out
  clear hb1 ho1 RU
  go_wp2_with fail
  go_loopg [5, 12] us.length (fun m wv iv wr => ∃ k : Nat, iv = .int .i64 (k : Int) ∧ us.length - k ≤ m ∧ k ≤ us.length ∧ Below w1.heap.size w1 wr ∧ IOwn wr w1.heap.size (wayL l (us.take k)) wv)
  case atStart => exact ⟨0, rfl, Nat.le_refl _, Nat.zero_le _, Below.refl _ _, IOwn_nil _ _⟩
  case round =>
    obtain ⟨k, rfl, hm, hk, hb, ho⟩ := hrel
    have HM := Lib.hid hm
    have BR := Lib.hid hb
    have OR := Lib.hid ho
    clear hm hb ho
    by_cases hlt : k < us.length
    · obtain ⟨t, ht⟩ : ∃ t, us[k]? = some t := ⟨_, List.getElem?_eq_getElem hlt⟩
      obtain ⟨j, x, hj, hx, hlk⟩ := UF.out t (List.mem_of_getElem? ht)
      obtain ⟨_, eb, u0⟩ := (O1.out.below BR.out).cell ht
      obtain rfl := eb
      have FE : findI l t = (j : Int) := by unfold findI; rw [hj]
      have BW := Lib.hid (B1.out.trans (BR.out.mono B1.out.size))
      have RF1 := Lib.hid (RF.out wr BW.out t)
      rw [FE] at RF1
      have STEP := Lib.hid (wayL_step ht hlk)
      have jl : j < l.length := (List.getElem?_eq_some_iff.1 hx).1
      have WL := Lib.hid (show (wayL l (us.take k)).length ≤ 120 from Nat.le_trans (wayL_len _ _) (by rw [List.length_take]; omega))
      have y0 : (0 : Int) ≤ (j : Int) := by omega
      have y1 : (j : Int) < (l.length : Int) := by omega
      have z0 : (0 : Int) ≤ (k : Int) := by omega
      have z1 : (k : Int) < (us.length : Int) := by omega
      have HX := Lib.hid hx
      generalize wayL l (us.take k) = ws at *
      obtain ⟨wo, wc, rfl⟩ := (irow_of_own OR.out).shape
      clear hj hx hlk ht FE
      go_wp2_with fail
      with_reducible refine RF1.out.mono ?_
      rintro e w2 ⟨rfl, hb2⟩
      have B2 := Lib.hid (BR.out.trans (hb2.mono BR.out.size))
      have O2 := Lib.hid (show IOwn w2 w1.heap.size ws (.slice wo ws.length wc) from own_below OR.out hb2)
      have BW2 := Lib.hid (below_tr BW.out hb2)
      obtain ⟨_, _, e9, _, _, h9⟩ := H.out.below BW2.out
      simp only [Value.slice.injEq, true_and] at e9
      obtain ⟨rfl, rfl⟩ := e9
      obtain ⟨gx, ox, rfl, hc⟩ := h9 j x HX.out
      obtain ⟨k0, k1, k2, k3, k4, k5, k6, k7, k8, k9, k10, k11⟩ := hc
      have NW := Lib.hid (news_new w2 #[.string x.name, .string x.parent, .int .i64 x.lim.c, .int .i64 x.lim.m, .int .i64 x.lim.p, .int .i64 x.own.c, .int .i64 x.own.m, .int .i64 x.own.p, .int .i64 x.sub.c, .int .i64 x.sub.m, .int .i64 x.sub.p, .int .i64 x.ver] 40)
      have OA := Lib.hid (O2.out.alloc (.cells #[.string x.name, .string x.parent, .int .i64 x.lim.c, .int .i64 x.lim.m, .int .i64 x.lim.p, .int .i64 x.own.c, .int .i64 x.own.m, .int .i64 x.own.p, .int .i64 x.sub.c, .int .i64 x.sub.m, .int .i64 x.sub.p, .int .i64 x.ver] 40))
      have BA := Lib.hid (below_al B2.out (.cells #[.string x.name, .string x.parent, .int .i64 x.lim.c, .int .i64 x.lim.m, .int .i64 x.lim.p, .int .i64 x.own.c, .int .i64 x.own.m, .int .i64 x.own.p, .int .i64 x.sub.c, .int .i64 x.sub.m, .int .i64 x.sub.p, .int .i64 x.ver] 40))
      clear hb2 h9
      go_wp2_with (at_builtin; go_loud (refine wpList_append_any _ rfl _ _ 52 rfl w1.heap.size 40 i0 _ 12 112 Try.underlying52 hi0 hz0 hz1 hz2 rfl (by decide) (.slice wo ws.length wc) ws.length (i12s ws) rfl OA.out (some ⟨w2.heap.size, 0, none⟩) 1 1 x.cells rfl (by rfl) (fun h => by cases h) (fun ad had j u hj => by cases had; exact NW.out j u hj) (i12c_one _) (by have := WL.out; unfold maxLen; omega) (by have := WL.out; omega) BA.out.size ?_))
      intro v3 w3 hown3 hg3
      have NM := Lib.hid (show IOwn w3 w1.heap.size (wayL l (us.take (k + 1))) v3 from by
        rw [STEP.out]
        have e1 : i12s (ws ++ [x]) = i12s ws ++ x.cells := by rw [i12s_app]; simp [i12s]
        unfold IOwn
        rw [e1, List.length_append]
        exact hown3)
      have B3 := Lib.hid (below_grown' BA.out hg3 (fun q hq => (World.ownsRow.lt OA.out q hq).1))
      clear hown3 hg3
      go_wp2_with fail
      go_roundg (us.length - (k + 1))
      case rel => exact ⟨k + 1, by go_num, Nat.le_refl _, hlt, B3.out, NM.out⟩
      case measure => have := HM.out; omega
    · obtain rfl : k = us.length := by omega
      have OE := Lib.hid (show IOwn wr w1.heap.size (wayL l us) _ from by have := OR.out; rw [List.take_length] at this; exact this)
      go_wp2_with fail
      go_ret
      exact ⟨_, rfl, B1.out.trans (BR.out.mono B1.out.size), own_lower0 OE.out B1.out.size⟩
end
end Go.Proofs.Ytffmmoligdoclaa
