/- Package admit: the item that a way comes to; what is turned. -/
import Derived.Test.YtekaefeogbmmmaaAdQ
import Derived.Test.YtekaefeogbmmmaaTrK
namespace Go.Proofs.Ytekaefeogbmmmaa
open Go.RowKit
set_option linter.unusedVariables false
set_option linter.unusedSimpArgs false
theorem map_set {l : List I12} (hu : Uq l) {k : Nat} {x : I12} (hk : l[k]? = some x) {f g : I12 → I12} (h : ∀ y ∈ l, y.name ≠ x.name → f y = g y) : (l.map f).set k (g x) = l.map g := by
  apply List.ext_getElem?
  intro j
  rw [List.getElem?_set, List.getElem?_map]
  by_cases e : k = j
  · subst e
    have hkl := (List.getElem?_eq_some_iff.1 hk).1
    rw [if_pos rfl, if_pos (by rw [List.length_map]; exact hkl), List.getElem?_map, hk]
    rfl
  · rw [if_neg e, List.getElem?_map]
    cases hj : l[j]? with
    | none => rfl
    | some y =>
      have hy : y.name ≠ x.name := fun e2 => e (uq_at hu hk hj e2.symm)
      show some (f y) = some (g y)
      rw [h y (List.mem_of_getElem? hj) hy]
theorem ptsL_map {l : List I12} : ∀ {us : List ByteArray}, (∀ t ∈ us, ∃ k, iIdx l t = some k) → (ptsL l us).map some = us.map (iIdx l)
  | [], _ => rfl
  | t :: r, h => by
    obtain ⟨k, hk⟩ := h t List.mem_cons_self
    have ih := ptsL_map (l := l) (us := r) (fun t ht => h t (List.mem_cons_of_mem _ ht))
    have e : ptsL l (t :: r) = k :: ptsL l r := by unfold ptsL; rw [List.filterMap_cons, hk]
    rw [e, List.map_cons, List.map_cons, ih, hk]
theorem ptsL_at {l : List I12} {us : List ByteArray} (h : ∀ t ∈ us, ∃ k, iIdx l t = some k) {i k : Nat} {t : ByteArray} (ht : us[i]? = some t) (hk : iIdx l t = some k) : (ptsL l us)[i]? = some k := by
  have e := congrArg (fun z => z[i]?) (ptsL_map h)
  simp only [List.getElem?_map, ht, Option.map_some, hk] at e
  cases hp : (ptsL l us)[i]? with
  | none => rw [hp] at e; cases e
  | some z => rw [hp] at e; simpa using e
theorem ptsL_length {l : List I12} {us : List ByteArray} (h : ∀ t ∈ us, ∃ k, iIdx l t = some k) : (ptsL l us).length = us.length := by
  have e := congrArg List.length (ptsL_map h)
  rwa [List.length_map, List.length_map] at e
theorem admF_own {l : List I12} (hu : Uq l) {k : Nat} {x : I12} (hk : l[k]? = some x) (v : V3) : l.set k ⟨x.name, x.parent, x.lim, addV x.own v, x.sub, x.ver⟩ = l.map (admF [] x.name v) := by
  have := map_set hu hk (f := id) (g := admF [] x.name v) (fun y _ hy => by
    show y = ⟨y.name, y.parent, y.lim, if y.name = x.name then addV y.own v else y.own, if y.name ∈ ([] : List ByteArray) then addV y.sub v else y.sub, y.ver⟩
    rw [if_neg hy, if_neg (by simp)])
  rw [List.map_id] at this
  rw [← this]
  congr 1
  show _ = (⟨x.name, x.parent, x.lim, if x.name = x.name then addV x.own v else x.own, if x.name ∈ ([] : List ByteArray) then addV x.sub v else x.sub, x.ver⟩ : I12)
  rw [if_pos rfl, if_neg (by simp)]
theorem admF_next {l : List I12} (hu : Uq l) {us : List ByteArray} (hn : us.Nodup) {i k : Nat} {x : I12} (s : ByteArray) (v : V3) (hk : l[k]? = some x) (hi : us[i]? = some x.name) :
    (l.map (admF (us.take i) s v)).set k ⟨x.name, x.parent, x.lim, if x.name = s then addV x.own v else x.own, addV x.sub v, x.ver⟩ = l.map (admF (us.take (i + 1)) s v) := by
  have ht : us.take (i + 1) = us.take i ++ [x.name] := by rw [List.take_add_one, hi]; rfl
  have := map_set hu hk (f := admF (us.take i) s v) (g := admF (us.take (i + 1)) s v) (fun y _ hy => by
    show (⟨y.name, y.parent, y.lim, _, if y.name ∈ us.take i then addV y.sub v else y.sub, y.ver⟩ : I12) = ⟨y.name, y.parent, y.lim, _, if y.name ∈ us.take (i + 1) then addV y.sub v else y.sub, y.ver⟩
    have : (y.name ∈ us.take (i + 1)) ↔ y.name ∈ us.take i := by rw [ht]; simp [hy]
    simp only [this])
  rw [← this]
  congr 1
  show _ = (⟨x.name, x.parent, x.lim, if x.name = s then addV x.own v else x.own, if x.name ∈ us.take (i + 1) then addV x.sub v else x.sub, x.ver⟩ : I12)
  simp only [if_pos (show x.name ∈ us.take (i + 1) from by rw [ht]; exact List.mem_append_right _ List.mem_cons_self)]
theorem admF_at {l : List I12} {us : List ByteArray} (hn : us.Nodup) {i k : Nat} {x : I12} (s : ByteArray) (v : V3) (hk : l[k]? = some x) (hi : us[i]? = some x.name) : (l.map (admF (us.take i) s v))[k]? = some ⟨x.name, x.parent, x.lim, if x.name = s then addV x.own v else x.own, x.sub, x.ver⟩ := by
  rw [List.getElem?_map, hk]
  show some (⟨x.name, x.parent, x.lim, if x.name = s then addV x.own v else x.own, if x.name ∈ us.take i then addV x.sub v else x.sub, x.ver⟩ : I12) = _
  rw [if_neg (nodup_take hn hi)]
theorem StrsO.far3' {w : World} {B e z n : Nat} {v : Value} {xs : List Value} (h : w.ownsRow B e z v n xs) {g : Nat} (hg : v.ownBlock ≠ some g) (a b c : Nat) (u1 u2 u3 : Value) : (((w.setCell ⟨g, a, none⟩ u1).setCell ⟨g, b, none⟩ u2).setCell ⟨g, c, none⟩ u3).ownsRow B e z v n xs :=
  ownsRow_setCell_other (ownsRow_setCell_other (ownsRow_setCell_other h hg _) hg _) hg _
section
variable (w : World)
set_option maxHeartbeats 4000000 in
set_option maxRecDepth 20000 in
theorem pone (og gp oc pc n m k0 : Nat) (p0 : w.cell? ⟨gp, 0, none⟩ = some (.int .i64 (k0 : Int))) (hk : k0 < n) (hm : 0 < m) :
    Calls Try.prog 31 #[.agg #[.slice (some ⟨og, 0, none⟩) n oc, .slice (some ⟨gp, 0, none⟩) m pc]] w (Made (.pointer (some ⟨og, k0 * 12, none⟩)) w) := by
  have y0 : (0 : Int) ≤ (k0 : Int) := by omega
  have y1 : (k0 : Int) < (n : Int) := by omega
  have y2 : (0 : Int) < (m : Int) := by omega
  have D0 := Lib.hid (DBlk.new w (.slice (some ⟨og, 0, none⟩) n oc) (.slice (some ⟨gp, 0, none⟩) m pc))
  have BX := Lib.hid (below_al (Below.refl w.heap.size w) (.cells #[.slice (some ⟨og, 0, none⟩) n oc, .slice (some ⟨gp, 0, none⟩) m pc] 53))
  obtain ⟨b0, b1⟩ := D0.out.cells
  replace p0 := hold BX.out p0
  go_enter Try.func31, Try.ntmps31
  go_wp2_with fail
  generalize w.alloc (.cells #[.slice (some ⟨og, 0, none⟩) n oc, .slice (some ⟨gp, 0, none⟩) m pc] 53) = w1 at *
  refine wp_region_mono (by kernel_rfl) (by kernel_rfl) ?_
  simp only [List.map_cons, List.map_nil, List.append_eq, List.cons_append, List.nil_append]
  repeat (first
    | (apply wpM_is
       · (intro us V hV hg K hK
          clear hg
          have d0 := hold hV b0
          have d1 := hold hV b1
          have d2 := hold hV p0
          simp only [fillA]
          go_simp
          first
          | exact hK _ (Below.refl _ _))
       simp only [setD, List.set_cons_zero, List.set_cons_succ]))
  intro us9 W hW hg
  simp only [fillA]
  clear hg
  have BW := Lib.hid (BX.out.trans (hW.mono BX.out.size))
  clear hW b0 b1 p0 y0 y1 y2
  go_wp2_with fail
  go_ret
  exact ⟨rfl, BW.out⟩
set_option maxHeartbeats 16000000 in
set_option maxRecDepth 100000 in
theorem pturn (W0 : World) (l : List I12) (iv : Value) (v n : V3) (FN gb : Nat) (hR : ∀ (a : Array Value) (W : World), (callFunc FN a).run Try.prog W = .ok (.enter FN a) W) (TO : ∀ W u, CBlk W gb v → mayV u = true → Calls Try.prog FN #[.agg #[.int .i64 u.c, .int .i64 u.m, .int .i64 u.p], .pointer (some ⟨gb, 0, none⟩)] W (Made (.agg #[.int .i64 (addV u n).c, .int .i64 (addV u n).m, .int .i64 (addV u n).p]) W)) (hB : Below W0.heap.size W0 w) (ho : IOwn w W0.heap.size l iv) (hv : CBlk w gb v) (hr : RT l) (s : ByteArray) (hs : upI l s ≠ []) (Bp : Nat) (pv : Value) (hp : w.ownsRow Bp 3 1 pv (ptsL l (upI l s)).length (natC (ptsL l (upI l s)))) :
    Calls Try.prog 25 #[.agg #[iv, pv], .func (.func FN) #[] #[.pointer (some ⟨gb, 0, none⟩)]] w fun e w' => e = .returned (.tuple #[]) ∧ Below W0.heap.size W0 w' ∧ IOwn w' W0.heap.size (l.map (admF (upI l s) s n)) iv ∧ ∀ q, q < w.heap.size → some q ≠ iv.ownBlock → w'.heap[q]? = w.heap[q]? := by
  obtain ⟨x, hx⟩ := up_look hs
  obtain ⟨xm, xn⟩ := look_name hx
  have UN := Lib.hid (show (upI l s).Nodup from upF_nodup _ _ (by have := hr.up s; unfold upI at this; omega))
  obtain ⟨r, hr0⟩ := up_head hr xm
  rw [xn] at hr0
  have UF := Lib.hid (fun t (ht : t ∈ upI l s) => up_found (l := l) (s := s) ht)
  have UI : ∀ t ∈ upI l s, ∃ k, iIdx l t = some k := fun t ht => by obtain ⟨k, _, h1, -⟩ := up_found ht; exact ⟨k, h1⟩
  have PL := Lib.hid (ptsL_length UI)
  have PA := Lib.hid (fun i k t ht hk => ptsL_at (i := i) (k := k) (t := t) UI ht hk)
  obtain ⟨k0, hk0, hlk0⟩ := look_at hx
  have U0 : (upI l s)[0]? = some s := by rw [hr0]; rfl
  have P0 := Lib.hid (ptsL_at UI U0 hk0)
  have lpos : 0 < l.length := List.length_pos_of_mem xm
  have GI := Lib.hid (show iv.ownBlock ≠ some gb from row_off ho hv (by decide))
  obtain ⟨og, oc, rfl⟩ : ∃ og oc, iv = .slice (some ⟨og, 0, none⟩) l.length oc := by
    rcases ho.2 with ⟨-, h0⟩ | ⟨g, cap, cur, rfl, -⟩
    · omega
    · exact ⟨g, cap, rfl⟩
  have GN := Lib.hid (show gb ≠ og from fun e => GI.out (by rw [e]; rfl))
  have HR := Lib.hid hr
  have HL := hr.len
  have UL := Lib.hid (show (upI l s).length ≤ 120 from by have := hr.up s; omega)
  obtain ⟨po, pc, rfl⟩ := own_shape hp
  obtain ⟨ps, hps⟩ : ∃ ps, ps = ptsL l (upI l s) := ⟨_, rfl⟩
  rw [← hps] at PL PA P0 hp ⊢
  have ppos : 0 < ps.length := by rw [PL.out, hr0]; simp
  obtain ⟨gp, rfl, -⟩ := own_cell hp P0.out
  have BX := Lib.hid (below_al (Below.refl w.heap.size w) (.cells #[.slice (some ⟨og, 0, none⟩) l.length oc, .slice (some ⟨gp, 0, none⟩) ps.length pc] 53))
  have D0 := Lib.hid (DBlk.new w (.slice (some ⟨og, 0, none⟩) l.length oc) (.slice (some ⟨gp, 0, none⟩) ps.length pc))
  have V0 := Lib.hid (hv.below BX.out)
  have GLT := Lib.hid hv.lt
  have O0 := Lib.hid (show IOwn _ W0.heap.size l (.slice (some ⟨og, 0, none⟩) l.length oc) from own_below ho BX.out)
  have HP := Lib.hid (own_below hp BX.out)
  have OLT := Lib.hid (show og < w.heap.size from (World.ownsRow.lt ho og rfl).2)
  have HB0 := Lib.hid (show Below W0.heap.size W0 (w.alloc (.cells #[.slice (some ⟨og, 0, none⟩) l.length oc, .slice (some ⟨gp, 0, none⟩) ps.length pc] 53)) from below_tr hB BX.out)
  have F0 := Lib.hid (show ∀ q, q < w.heap.size → some q ≠ (some og) → (w.alloc (.cells #[.slice (some ⟨og, 0, none⟩) l.length oc, .slice (some ⟨gp, 0, none⟩) ps.length pc] 53)).heap[q]? = w.heap[q]? from fun q hq _ => BX.out.block q hq)
  generalize upI l s = us at *
  clear hp ho hB hps hv
  obtain ⟨_, eb, p0⟩ := own_cell HP.out P0.out
  cases eb
  obtain ⟨a0, a1, a2, a3, a4, a5, a6, a7, a8, a9, a10, a11⟩ := O0.out.at hlk0
  obtain ⟨b0, b1⟩ := D0.out.cells
  have kl : k0 < l.length := (List.getElem?_eq_some_iff.1 hlk0).1
  have hmx := (one_iff.1 (HR.out.one x xm)).2.2.1
  have ONE := Lib.hid (fun W (h : W.cell? ⟨gp, 0, none⟩ = some (.int .i64 (k0 : Int))) => pone W og gp oc pc l.length ps.length k0 h kl ppos)
  have T1 := Lib.hid (fun W (h : CBlk W gb v) => TO W x.own h hmx)
  have TO2 := Lib.hid TO
  go_enter Try.func25, Try.ntmps25
  go_wp2_with fail
  generalize w.alloc (.cells #[.slice (some ⟨og, 0, none⟩) l.length oc, .slice (some ⟨gp, 0, none⟩) ps.length pc] 53) = w1 at *
  generalize hbd : w.heap.size = bd at *
  have HBD := Lib.hid hbd
  have OS := Lib.hid (show l.set k0 ⟨x.name, x.parent, x.lim, addV x.own n, x.sub, x.ver⟩ = l.map (admF (us.take 0) s n) from by
    rw [admF_own HR.out.srt.uq hlk0 n, xn]; rfl)
  have HLK0 := Lib.hid hlk0
  obtain ⟨s1, hs1⟩ : ∃ s1, s1 = addV x.own n := ⟨_, rfl⟩
  rw [← hs1] at T1 OS
  clear hbd hs1 hlk0 TO hmx
  refine wp_region_mono_tail 11 (by kernel_rfl) (by kernel_rfl) (Nat.le_of_ble_eq_true (by kernel_rfl)) (by kernel_rfl) ?_
  simp only [List.map_cons, List.map_nil]
  simp only [List.take_succ_cons, List.take_zero, List.drop_succ_cons, List.drop_zero]
  repeat (first
    | (apply wpM_is
       · (intro us V hV hg K hK
          clear hg
          have d0 := hold hV b0
          have d1 := hold hV b1
          have d2 := hold hV a5
          have d3 := hold hV a6
          have d4 := hold hV a7
          simp only [fillA]
          go_simp
          first
          | exact hK _ (Below.refl _ _)
          | ((with_reducible refine (ONE.out _ (hold hV p0)).mono ?_); rintro e w' ⟨rfl, hb⟩; exact hK _ hb))
       simp only [setD, List.set_cons_zero, List.set_cons_succ]))
  apply wpM_is
  · intro us V hV hg K hK
    clear hg
    simp only [fillA]
    go_simp
    (with_reducible refine (T1.out _ (V0.out.below hV)).mono ?_)
    rintro e w' ⟨rfl, hb⟩
    exact hK _ hb
  simp only [setD, List.set_cons_zero, List.set_cons_succ]
  repeat (first
    | (apply wpM_is
       · (intro us V hV hg K hK
          clear hg
          have d0 := hold hV b0
          simp only [fillA]
          go_simp
          first
          | exact hK _ (Below.refl _ _))
       simp only [setD, List.set_cons_zero, List.set_cons_succ]))
  intro us8 V hV hg
  simp only [fillA]
  clear hg
  have OV := Lib.hid (show IOwn V W0.heap.size l (.slice (some ⟨og, 0, none⟩) l.length oc) from own_below O0.out hV)
  have BV := Lib.hid (HB0.out.trans (hV.mono HB0.out.size))
  have DV := Lib.hid (D0.out.below hV)
  have VV := Lib.hid (V0.out.below hV)
  have PW := Lib.hid (own_below HP.out hV)
  have FV' := Lib.hid (show ∀ q, q < bd → some q ≠ some og → V.heap[q]? = w.heap[q]? from fun q hq hn => (hV.block q (by have := D0.out.lt; omega)).trans (F0.out q hq hn))
  have q5 := hold hV a5
  have q6 := hold hV a6
  have q7 := hold hV a7
  have fz5 := OV.out.frz (k0 * 12 + 5)
  have fz6 := OV.out.frz (k0 * 12 + 6)
  have fz7 := OV.out.frz (k0 * 12 + 7)
  have LB := Lib.hid (iblk_at OV.out).1
  clear hV a0 a1 a2 a3 a4 a5 a6 a7 a8 a9 a10 a11 b0 b1 p0 HB0 O0 D0 V0 HP F0
  go_upto_region 2 with fail
  have O2 := Lib.hid (show IOwn (((V.setCell ⟨og, k0 * 12 + 5, none⟩ (.int .i64 s1.c)).setCell ⟨og, k0 * 12 + 5 + 1, none⟩ (.int .i64 s1.m)).setCell ⟨og, k0 * 12 + 5 + 2, none⟩ (.int .i64 s1.p)) W0.heap.size (l.map (admF (us.take 0) s n)) (.slice (some ⟨og, 0, none⟩) l.length oc) from by
    rw [← OS.out]
    have := OV.out.set3 HLK0.out (y := ⟨x.name, x.parent, x.lim, s1, x.sub, x.ver⟩) 5 (by decide) (.int .i64 s1.c) (.int .i64 s1.m) (.int .i64 s1.p) rfl
    exact this)
  have B2 := Lib.hid (show Below W0.heap.size W0 (((V.setCell ⟨og, k0 * 12 + 5, none⟩ (.int .i64 s1.c)).setCell ⟨og, k0 * 12 + 5 + 1, none⟩ (.int .i64 s1.m)).setCell ⟨og, k0 * 12 + 5 + 2, none⟩ (.int .i64 s1.p)) from ((BV.out.setCell (by exact LB.out) _).setCell (by exact LB.out) _).setCell (by exact LB.out) _)
  have H3 := Lib.hid (fun q (hq : q ≠ og) => heap_set3 V og (k0 * 12 + 5) (k0 * 12 + 5 + 1) (k0 * 12 + 5 + 2) (.int .i64 s1.c) (.int .i64 s1.m) (.int .i64 s1.p) hq)
  have P2 := Lib.hid (StrsO.far3' PW.out (rows_apart OV.out PW.out (by decide) og rfl) (k0 * 12 + 5) (k0 * 12 + 5 + 1) (k0 * 12 + 5 + 2) (.int .i64 s1.c) (.int .i64 s1.m) (.int .i64 s1.p))
  have D2 := Lib.hid ((H3.out bd (by have := OLT.out; omega)).trans DV.out)
  have V2 := Lib.hid ((H3.out gb GN.out).trans VV.out)
  have F2 := Lib.hid (fun q (hq : q < bd) (hn : some q ≠ some og) => (H3.out q (fun e => hn (by rw [e]))).trans (FV'.out q hq hn))
  clear q5 q6 q7 fz5 fz6 fz7 OV BV DV VV PW FV' H3
  generalize ((V.setCell ⟨og, k0 * 12 + 5, none⟩ (.int .i64 s1.c)).setCell ⟨og, k0 * 12 + 5 + 1, none⟩ (.int .i64 s1.m)).setCell ⟨og, k0 * 12 + 5 + 2, none⟩ (.int .i64 s1.p) = w2 at *
  obtain ⟨b0, b1⟩ := DBlk.cells D2.out
  go_wp2_with fail
  have p120 : ps.length ≤ 120 := by have := PL.out; have := UL.out; omega
  go_loopg [20] ps.length (fun m kv wr => ∃ i : Nat, kv = .int .i64 (i : Int) ∧ ps.length - i ≤ m ∧ i ≤ ps.length ∧ Below W0.heap.size W0 wr ∧ IOwn wr W0.heap.size (l.map (admF (us.take i) s n)) (.slice (some ⟨og, 0, none⟩) l.length oc) ∧ DBlk wr bd (.slice (some ⟨og, 0, none⟩) l.length oc) (.slice (some ⟨gp, 0, none⟩) ps.length pc) ∧ CBlk wr gb v ∧ wr.ownsRow Bp 3 1 (.slice (some ⟨gp, 0, none⟩) ps.length pc) ps.length (natC ps) ∧ Hid (∀ q, q < bd → some q ≠ some og → wr.heap[q]? = w.heap[q]?))
  case atStart => exact ⟨0, rfl, Nat.le_refl _, Nat.zero_le _, B2.out, O2.out, D2.out, V2.out, P2.out, Lib.hid F2.out⟩
  case round =>
    obtain ⟨i, rfl, hm, hi, hb, ho, hd, hv, hp, FR⟩ := hrel
    have HM := Lib.hid hm
    have BR := Lib.hid hb
    have OR := Lib.hid ho
    have DR := Lib.hid hd
    have VR := Lib.hid hv
    have PR := Lib.hid hp
    clear hm hb ho hd hv hp
    by_cases hlt : i < ps.length
    · obtain ⟨t, ht⟩ : ∃ t, us[i]? = some t := ⟨_, List.getElem?_eq_getElem (by have := PL.out; omega)⟩
      obtain ⟨k, y, hk, hy, hly⟩ := UF.out t (List.mem_of_getElem? ht)
      obtain ⟨ym, yn⟩ := look_name hly
      subst yn
      have AT := Lib.hid (admF_at UN.out s n hy ht)
      have AN := Lib.hid (admF_next HR.out.srt.uq UN.out s n hy ht)
      obtain ⟨_, eb, c0⟩ := own_cell PR.out (PA.out i k y.name ht hk)
      cases eb
      obtain ⟨q0, q1, q2, q3, q4, q5, q6, q7, q8, q9, q10, q11⟩ := (show IOwn wr W0.heap.size (l.map (admF (us.take i) s n)) (.slice (some ⟨og, 0, none⟩) l.length oc) from OR.out).at AT.out
      simp only at q8 q9 q10
      obtain ⟨d0, d1⟩ := DR.out.cells
      have T2 := Lib.hid (fun W (h : CBlk W gb v) => TO2.out W y.sub h (HR.out.may y ym))
      obtain ⟨s2, hs2⟩ : ∃ s2, s2 = addV y.sub n := ⟨_, rfl⟩
      rw [← hs2] at T2 AN
      have kl : k < l.length := (List.getElem?_eq_some_iff.1 hy).1
      have z0 : (0 : Int) ≤ (k : Int) := by omega
      have z1 : (k : Int) < (l.length : Int) := by omega
      have z2 : (0 : Int) ≤ (i : Int) := by omega
      have z3' : (i : Int) < (ps.length : Int) := by omega
      clear hs2 hy hly ht hk ym q0 q1 q2 q3 q4 q5 q6 q7 q11
      go_upto_region 5 with fail
      refine wp_region_mono_tail 13 (by kernel_rfl) (by kernel_rfl) (Nat.le_of_ble_eq_true (by kernel_rfl)) (by kernel_rfl) ?_
      simp only [List.map_cons, List.map_nil]
      simp only [List.take_succ_cons, List.take_zero, List.drop_succ_cons, List.drop_zero]
      repeat (first
        | (apply wpM_is
           · (intro us V hV hg K hK
              clear hg
              have d0 := hold hV d0
              have d1 := hold hV q8
              have d2 := hold hV q9
              have d3 := hold hV q10
              simp only [fillA]
              go_simp
              first
              | exact hK _ (Below.refl _ _)
              | ((with_reducible refine (T2.out _ (VR.out.below hV)).mono ?_); rintro e w' ⟨rfl, hb⟩; exact hK _ hb))
           simp only [setD, List.set_cons_zero, List.set_cons_succ]))
      intro us7 V7 hV7 hg
      simp only [fillA]
      clear hg
      have O7 := Lib.hid (show IOwn V7 W0.heap.size (l.map (admF (us.take i) s n)) (.slice (some ⟨og, 0, none⟩) l.length oc) from own_below OR.out hV7)
      have B7 := Lib.hid (BR.out.trans (hV7.mono BR.out.size))
      have D7 := Lib.hid (DR.out.below hV7)
      have V8 := Lib.hid (VR.out.below hV7)
      have P7 := Lib.hid (own_below PR.out hV7)
      have F7 := Lib.hid (show ∀ q, q < bd → some q ≠ some og → V7.heap[q]? = w.heap[q]? from fun q hq hn => (hV7.block q (by have := DR.out.lt; omega)).trans (FR.out q hq hn))
      replace q8 := hold hV7 q8
      replace q9 := hold hV7 q9
      replace q10 := hold hV7 q10
      have fz8 := O7.out.frz (k * 12 + 8)
      have fz9 := O7.out.frz (k * 12 + 9)
      have fz10 := O7.out.frz (k * 12 + 10)
      have LB := Lib.hid (iblk_at O7.out).1
      clear hV7 d0 d1 c0 BR OR DR VR PR FR
      have O8 := Lib.hid (show IOwn (((V7.setCell ⟨og, k * 12 + 8, none⟩ (.int .i64 s2.c)).setCell ⟨og, k * 12 + 8 + 1, none⟩ (.int .i64 s2.m)).setCell ⟨og, k * 12 + 8 + 2, none⟩ (.int .i64 s2.p)) W0.heap.size (l.map (admF (us.take (i + 1)) s n)) (.slice (some ⟨og, 0, none⟩) l.length oc) from by
        rw [← AN.out]
        exact O7.out.set3 AT.out 8 (by decide) (.int .i64 s2.c) (.int .i64 s2.m) (.int .i64 s2.p) rfl)
      have B8 := Lib.hid (show Below W0.heap.size W0 (((V7.setCell ⟨og, k * 12 + 8, none⟩ (.int .i64 s2.c)).setCell ⟨og, k * 12 + 8 + 1, none⟩ (.int .i64 s2.m)).setCell ⟨og, k * 12 + 8 + 2, none⟩ (.int .i64 s2.p)) from ((B7.out.setCell (by exact LB.out) _).setCell (by exact LB.out) _).setCell (by exact LB.out) _)
      have H8 := Lib.hid (fun q (hq : q ≠ og) => heap_set3 V7 og (k * 12 + 8) (k * 12 + 8 + 1) (k * 12 + 8 + 2) (.int .i64 s2.c) (.int .i64 s2.m) (.int .i64 s2.p) hq)
      have P8 := Lib.hid (StrsO.far3' P7.out (rows_apart O7.out P7.out (by decide) og rfl) (k * 12 + 8) (k * 12 + 8 + 1) (k * 12 + 8 + 2) (.int .i64 s2.c) (.int .i64 s2.m) (.int .i64 s2.p))
      have D8 := Lib.hid ((H8.out bd (by have := OLT.out; omega)).trans D7.out)
      have V9 := Lib.hid ((H8.out gb GN.out).trans V8.out)
      have F8 := Lib.hid (fun q (hq : q < bd) (hn : some q ≠ some og) => (H8.out q (fun e => hn (by rw [e]))).trans (F7.out q hq hn))
      go_wp2_with fail
      go_roundg (ps.length - (i + 1))
      case rel => exact ⟨i + 1, by go_num, Nat.le_refl _, hlt, B8.out, O8.out, D8.out, V9.out, P8.out, Lib.hid F8.out⟩
      case measure => have := HM.out; omega
    · obtain rfl : i = ps.length := by omega
      have OE := Lib.hid (show IOwn wr W0.heap.size (l.map (admF us s n)) (.slice (some ⟨og, 0, none⟩) l.length oc) from by
        have := OR.out
        rw [PL.out, List.take_length] at this
        exact this)
      go_wp2_with fail
      exact bodyPost_end (v := .tuple #[]) (by simp [results, Try.results25, go_sem]) rfl ⟨rfl, BR.out, OE.out, fun q hq hn => FR.out q (by have := HBD.out; omega) hn⟩
end
end Go.Proofs.Ytekaefeogbmmmaa
