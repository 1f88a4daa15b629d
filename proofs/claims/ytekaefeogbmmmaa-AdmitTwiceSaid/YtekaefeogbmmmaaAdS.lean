/- Package admit: Admit and Release. -/
import Derived.Test.YtekaefeogbmmmaaAdR
import Derived.Test.YtekaefeogbmmmaaVecC
namespace Go.Proofs.Ytekaefeogbmmmaa
open Go.RowKit
set_option linter.unusedVariables false
set_option linter.unusedSimpArgs false
theorem upto_may {v : V3} (h : mayV v = true) : v.Upto 2199023255552 := by
  have := may_bounds h
  unfold V3.Upto; omega
theorem pts_lt {l : List I12} {us : List ByteArray} {j : Nat} (h : j ∈ ptsL l us) : j < l.length := by
  unfold ptsL at h
  rw [List.mem_filterMap] at h
  obtain ⟨t, -, ht⟩ := h
  exact iIdx_lt ht
theorem IOwn.block {w : World} {B : Nat} {l : List I12} {v : Value} (h : IOwn w B l v) {g : Nat} {a b : Value} (hd : DBlk w g a b) : some g ≠ v.ownBlock := fun e => row_off h hd (by decide) e.symm
theorem IOwn.blockV {w : World} {B : Nat} {l : List I12} {v : Value} (h : IOwn w B l v) {g : Nat} {a : V3} (hd : CBlk w g a) : some g ≠ v.ownBlock := fun e => row_off h hd (by decide) e.symm
section
variable (w : World)
set_option maxHeartbeats 4000000 in
set_option maxRecDepth 20000 in
theorem padm1 (gb : Nat) (v u : V3) (hv : CBlk w gb v) (hm : mayV v = true) (hu : mayV u = true) :
    Calls Try.prog 26 #[.agg #[.int .i64 u.c, .int .i64 u.m, .int .i64 u.p], .pointer (some ⟨gb, 0, none⟩)] w (Made (.agg #[.int .i64 (addV u v).c, .int .i64 (addV u v).m, .int .i64 (addV u v).p]) w) := by
  have UB := may_bounds hu
  have VB := may_bounds hm
  obtain ⟨r, hr⟩ : ∃ r, r = addV u v := ⟨_, rfl⟩
  rw [← hr]
  have AD := Lib.hid (show ∀ W lv, VRow W [u, v] lv → Calls Try.prog 27 #[lv] W (Made (.agg #[.int .i64 r.c, .int .i64 r.m, .int .i64 r.p]) W) from fun W lv hl => by
    have := vadd_any W [u, v] lv hl (by simp) (by
      simp only [List.mem_cons, List.not_mem_nil, or_false]
      rintro z (rfl | rfl)
      · unfold V3.Upto; omega
      · unfold V3.Upto; omega)
    rwa [two_sum, ← hr] at this)
  have BX := Lib.hid (below_al (below_al (Below.refl w.heap.size w) (.cells #[.int .i64 u.c, .int .i64 u.m, .int .i64 u.p] 24)) (.cells #[.int .i64 0, .int .i64 0, .int .i64 0] 24))
  have U0 := Lib.hid (show CBlk ((w.alloc (.cells #[.int .i64 u.c, .int .i64 u.m, .int .i64 u.p] 24)).alloc (.cells #[.int .i64 0, .int .i64 0, .int .i64 0] 24)) w.heap.size u from (CBlk.new w u).below (below_al (Below.refl _ (w.alloc (.cells #[.int .i64 u.c, .int .i64 u.m, .int .i64 u.p] 24))) (.cells #[.int .i64 0, .int .i64 0, .int .i64 0] 24)))
  have R0 := Lib.hid (show CBlk ((w.alloc (.cells #[.int .i64 u.c, .int .i64 u.m, .int .i64 u.p] 24)).alloc (.cells #[.int .i64 0, .int .i64 0, .int .i64 0] 24)) (w.heap.size + 1) z3 from heap_at (by simp))
  have V0 := Lib.hid (hv.below BX.out)
  obtain ⟨t0, t1, t2, -⟩ := U0.out.cells
  obtain ⟨s0, s1, s2, -⟩ := V0.out.cells
  clear hr hv hm hu UB VB
  have VR := Lib.hid (show VRow (((w.alloc (.cells #[.int .i64 u.c, .int .i64 u.m, .int .i64 u.p] 24)).alloc (.cells #[.int .i64 0, .int .i64 0, .int .i64 0] 24)).alloc (.cells #[.int .i64 u.c, .int .i64 u.m, .int .i64 u.p, .int .i64 v.c, .int .i64 v.m, .int .i64 v.p] 24)) [u, v] (.slice (some ⟨w.heap.size + 1 + 1, 0, none⟩) 2 2) from vrow_new [u, v] (heap_at (by simp)))
  go_enter Try.func26, Try.ntmps26
  go_wp2_with fail
  generalize (w.alloc (.cells #[.int .i64 u.c, .int .i64 u.m, .int .i64 u.p] 24)).alloc (.cells #[.int .i64 0, .int .i64 0, .int .i64 0] 24) = w1 at *
  with_reducible refine (AD.out _ _ VR.out).mono ?_
  rintro e w2 ⟨rfl, hb⟩
  have B2 := Lib.hid (BX.out.trans ((Below.trans (below_al (Below.refl w1.heap.size w1) _) (hb.mono (by simp))).mono BX.out.size))
  have R2 := Lib.hid ((R0.out.below (below_al (Below.refl w1.heap.size w1) _)).below hb)
  clear hb t0 t1 t2 s0 s1 s2
  obtain ⟨c0, c1, c2, -⟩ := R2.out.cells
  have f0 := R2.out.free 0
  have f1 := R2.out.free 1
  have f2 := R2.out.free 2
  go_wp2_with fail
  have RF := R2.out.set r
  have BF := Lib.hid (below_set3 B2.out (Nat.le_succ w.heap.size) (.int .i64 r.c) (.int .i64 r.m) (.int .i64 r.p))
  obtain ⟨d0, d1, d2, -⟩ := RF.cells
  exact bodyPost_ret (v := .agg #[.int .i64 r.c, .int .i64 r.m, .int .i64 r.p]) (by simp [results, Try.results26, go_sem, d0, d1, d2]) rfl ⟨rfl, BF.out⟩
set_option maxHeartbeats 4000000 in
set_option maxRecDepth 20000 in
theorem prel1 (gb : Nat) (v u : V3) (hv : CBlk w gb v) (hm : mayV v = true) (hu : mayV u = true) :
    Calls Try.prog 32 #[.agg #[.int .i64 u.c, .int .i64 u.m, .int .i64 u.p], .pointer (some ⟨gb, 0, none⟩)] w (Made (.agg #[.int .i64 (addV u (negV v)).c, .int .i64 (addV u (negV v)).m, .int .i64 (addV u (negV v)).p]) w) := by
  have UB := may_bounds hu
  have VB := may_bounds hm
  obtain ⟨r, hr⟩ : ∃ r, r = addV u (negV v) := ⟨_, rfl⟩
  rw [← hr]
  have AD := Lib.hid (show ∀ W, Calls Try.prog 33 #[.agg #[.int .i64 u.c, .int .i64 u.m, .int .i64 u.p], .agg #[.int .i64 v.c, .int .i64 v.m, .int .i64 v.p]] W (Made (.agg #[.int .i64 r.c, .int .i64 r.m, .int .i64 r.p]) W) from fun W => by
    have := vsub_any W u v (by unfold V3.I subV; simp only; omega)
    rwa [← add_neg, ← hr] at this)
  have BX := Lib.hid (below_al (below_al (Below.refl w.heap.size w) (.cells #[.int .i64 u.c, .int .i64 u.m, .int .i64 u.p] 24)) (.cells #[.int .i64 0, .int .i64 0, .int .i64 0] 24))
  have U0 := Lib.hid (show CBlk ((w.alloc (.cells #[.int .i64 u.c, .int .i64 u.m, .int .i64 u.p] 24)).alloc (.cells #[.int .i64 0, .int .i64 0, .int .i64 0] 24)) w.heap.size u from (CBlk.new w u).below (below_al (Below.refl _ (w.alloc (.cells #[.int .i64 u.c, .int .i64 u.m, .int .i64 u.p] 24))) (.cells #[.int .i64 0, .int .i64 0, .int .i64 0] 24)))
  have R0 := Lib.hid (show CBlk ((w.alloc (.cells #[.int .i64 u.c, .int .i64 u.m, .int .i64 u.p] 24)).alloc (.cells #[.int .i64 0, .int .i64 0, .int .i64 0] 24)) (w.heap.size + 1) z3 from heap_at (by simp))
  have V0 := Lib.hid (hv.below BX.out)
  obtain ⟨t0, t1, t2, -⟩ := U0.out.cells
  obtain ⟨s0, s1, s2, -⟩ := V0.out.cells
  clear hr hv hm hu UB VB
  go_enter Try.func32, Try.ntmps32
  go_wp2_with fail
  generalize (w.alloc (.cells #[.int .i64 u.c, .int .i64 u.m, .int .i64 u.p] 24)).alloc (.cells #[.int .i64 0, .int .i64 0, .int .i64 0] 24) = w1 at *
  with_reducible refine (AD.out _).mono ?_
  rintro e w2 ⟨rfl, hb⟩
  have B2 := Lib.hid (BX.out.trans (hb.mono BX.out.size))
  have R2 := Lib.hid (R0.out.below hb)
  clear hb t0 t1 t2 s0 s1 s2
  obtain ⟨c0, c1, c2, -⟩ := R2.out.cells
  have f0 := R2.out.free 0
  have f1 := R2.out.free 1
  have f2 := R2.out.free 2
  go_wp2_with fail
  have RF := R2.out.set r
  have BF := Lib.hid (below_set3 B2.out (Nat.le_succ w.heap.size) (.int .i64 r.c) (.int .i64 r.m) (.int .i64 r.p))
  obtain ⟨d0, d1, d2, -⟩ := RF.cells
  exact bodyPost_ret (v := .agg #[.int .i64 r.c, .int .i64 r.m, .int .i64 r.p]) (by simp [results, Try.results32, go_sem, d0, d1, d2]) rfl ⟨rfl, BF.out⟩
end
set_option maxHeartbeats 8000000 in
set_option maxRecDepth 20000 in
theorem admit_let : AdmC := fun w l lv s v h hr hs => by
  have AE := Lib.hid (show admE l s v = if mayV v = false then 1 else if upI l s = [] then 2 else if roomB l (upI l s) v = false then 12 else 0 from rfl)
  have BX := Lib.hid (below_al (Below.refl w.heap.size w) (.cells #[.int .i64 v.c, .int .i64 v.m, .int .i64 v.p] 24))
  have V0 := Lib.hid (CBlk.new w v)
  obtain ⟨t0, t1, t2, -⟩ := V0.out.cells
  cases hm : mayV v with
  | false =>
    have R := Lib.hid (show admE l s v = 1 from by rw [AE.out, if_pos hm])
    have DO := Lib.hid (fun W => pdoor1 W l lv s v hm)
    clear hm AE h hr
    go_enter Try.func10, Try.ntmps10
    go_wp2_with fail
    with_reducible refine (DO.out _).mono ?_
    rintro e w1 ⟨rfl, hb⟩
    have B1 := Lib.hid (below_al (below_tr BX.out hb) (.cells #[.slice none 0 0, .slice none 0 0] 53))
    clear hb t0 t1 t2
    go_wp2_with fail
    go_ret2
    exact ⟨.slice none 0 0, by rw [R.out]; rfl, B1.out, by rw [R.out]; exact IRow.nil _⟩
  | true =>
    by_cases hu : upI l s = []
    · have R := Lib.hid (show admE l s v = 2 from by rw [AE.out, if_neg (by rw [hm]; decide), if_pos hu])
      have DO := Lib.hid (fun W (hW : Below w.heap.size w W) => pdoor2 W l lv (h.below hW) hr s v hm hu)
      clear hm AE h hr hu
      go_enter Try.func10, Try.ntmps10
      go_wp2_with fail
      with_reducible refine (DO.out _ BX.out).mono ?_
      rintro e w1 ⟨rfl, hb⟩
      have B1 := Lib.hid (below_al (below_tr BX.out hb) (.cells #[.slice none 0 0, .slice none 0 0] 53))
      clear hb t0 t1 t2
      go_wp2_with fail
      go_ret2
      exact ⟨.slice none 0 0, by rw [R.out]; rfl, B1.out, by rw [R.out]; exact IRow.nil _⟩
    · have AE2 := Lib.hid (show admE l s v = if roomB l (upI l s) v = false then 12 else 0 from by rw [AE.out, if_neg (by rw [hm]; decide), if_neg hu])
      have DO := Lib.hid (fun W (hW : Below w.heap.size w W) => pdoor0 W l lv (h.below hW) hr s v hm hu)
      have HR := Lib.hid hr
      have HM := Lib.hid hm
      have HU := Lib.hid hu
      have UI : ∀ t ∈ upI l s, ∃ k, iIdx l t = some k := fun t ht => by obtain ⟨k, _, h1, -⟩ := up_found ht; exact ⟨k, h1⟩
      have PL := Lib.hid (ptsL_length UI)
      have U120 := Lib.hid (show (upI l s).length ≤ 120 from by have := HR.out.up s; have := HR.out.len; omega)
      have PR := Lib.hid (pts_room HR.out (us := upI l s) (fun t ht => up_found ht) v)
      have CL := Lib.hid (fun W (u : V3) (hv : CBlk W w.heap.size v) (hq : mayV u = true) => padm1 W w.heap.size v u hv HM.out hq)
      clear hm AE h hr hu
      go_enter Try.func10, Try.ntmps10
      go_wp2_with fail
      with_reducible refine (DO.out _ BX.out).mono ?_
      rintro e w2 ⟨iv, uv, rfl, hb, hi, hp⟩
      have B2 := Lib.hid (below_tr BX.out hb)
      have V2 := Lib.hid (V0.out.below hb)
      have SZ := Lib.hid (show w.heap.size ≤ (w.alloc (.cells #[.int .i64 v.c, .int .i64 v.m, .int .i64 v.p] 24)).heap.size from BX.out.size)
      obtain ⟨po, pc, rfl⟩ := own_shape hp
      obtain ⟨io, ic, rfl⟩ := (irow_of_own hi).shape
      have RC := Lib.hid (fun W Bq (hi : IRow W l (.slice io l.length ic)) (hp : W.ownsRow Bq 3 1 (.slice po (ptsL l (upI l s)).length pc) (ptsL l (upI l s)).length (natC (ptsL l (upI l s)))) => proom W l (.slice io l.length ic) v hi (upto_may HM.out) HR.out.may Bq (ptsL l (upI l s)) (.slice po (ptsL l (upI l s)).length pc) hp (by have := PL.out; have := U120.out; omega) (fun j hj => pts_lt hj))
      rw [PR.out] at RC
      have EL := Lib.hid (show l.map (admF (upI l s) s v) = admL l s v from rfl)
      have D3 := Lib.hid (DBlk.new w2 (.slice io l.length ic) (.slice po (ptsL l (upI l s)).length pc))
      have DX := Lib.hid (below_al (Below.refl w2.heap.size w2) (.cells #[.slice io l.length ic, .slice po (ptsL l (upI l s)).length pc] 53))
      have I3 := Lib.hid (show IOwn (w2.alloc (.cells #[.slice io l.length ic, .slice po (ptsL l (upI l s)).length pc] 53)) w.heap.size l (.slice io l.length ic) from World.ownsRow.alloc (own_lower0 hi SZ.out) _)
      have P3 := Lib.hid (World.ownsRow.alloc hp (.cells #[.slice io l.length ic, .slice po (ptsL l (upI l s)).length pc] 53))
      have B3 := Lib.hid (below_tr B2.out DX.out)
      have V3' := Lib.hid (V2.out.below DX.out)
      have TC := Lib.hid (fun W (hB : Below w.heap.size w W) (ho : IOwn W w.heap.size l (.slice io l.length ic)) (hv : CBlk W w.heap.size v) (hp : W.ownsRow (w.alloc (.cells #[.int .i64 v.c, .int .i64 v.m, .int .i64 v.p] 24)).heap.size 3 1 (.slice po (ptsL l (upI l s)).length pc) (ptsL l (upI l s)).length (natC (ptsL l (upI l s)))) => pturn W w l (.slice io l.length ic) v v 26 w.heap.size (fun a W => run_enter Try.func26 (by kernel_rfl) (by kernel_rfl) a W) (fun W u hv hq => CL.out W u hv hq) hB ho hv HR.out s HU.out _ (.slice po (ptsL l (upI l s)).length pc) hp)
      rw [EL.out] at TC
      clear hb hi hp t0 t1 t2
      generalize ptsL l (upI l s) = ps at *
      obtain ⟨b0, b1⟩ := D3.out.cells
      obtain ⟨t0, t1, t2, -⟩ := V3'.out.cells
      have hmf : ∀ (fn : Fn) (first cap : Array Value) (w : World), (Instr.makeFunc fn first cap).run Try.prog w = .ok (.func fn first cap) w := fun _ _ _ _ => rfl
      go_upto_region 4 with fail
      generalize w2.alloc (.cells #[.slice io l.length ic, .slice po ps.length pc] 53) = w3 at *
      generalize w2.heap.size = bd at *
      cases hq : roomB l (upI l s) v with
      | false =>
        have R := Lib.hid (show admE l s v = 12 from by rw [AE2.out, if_pos hq])
        rw [hq] at RC
        clear hq AE2
        go_wp2_with fail
        with_reducible refine (RC.out _ _ (irow_of_own I3.out) P3.out).mono ?_
        rintro e w4 ⟨rfl, hb⟩
        have B4 := Lib.hid (below_tr B3.out hb)
        have D4 := Lib.hid (D3.out.below hb)
        have V4 := Lib.hid (V3'.out.below hb)
        have I4 := Lib.hid (show IOwn w4 w.heap.size l (.slice io l.length ic) from own_below I3.out hb)
        have P4 := Lib.hid (own_below P3.out hb)
        clear hb b0 b1 t0 t1 t2
        go_wp2_with fail
        go_ret2
        exact ⟨.slice none 0 0, by rw [R.out]; rfl, B4.out, by rw [R.out]; exact IRow.nil _⟩
      | true =>
        have R := Lib.hid (show admE l s v = 0 from by rw [AE2.out, if_neg (by rw [hq]; decide)])
        rw [hq] at RC
        clear hq AE2
        go_wp2_with fail
        with_reducible refine (RC.out _ _ (irow_of_own I3.out) P3.out).mono ?_
        rintro e w4 ⟨rfl, hb⟩
        have B4 := Lib.hid (below_tr B3.out hb)
        have D4 := Lib.hid (D3.out.below hb)
        have V4 := Lib.hid (V3'.out.below hb)
        have I4 := Lib.hid (show IOwn w4 w.heap.size l (.slice io l.length ic) from own_below I3.out hb)
        have P4 := Lib.hid (own_below P3.out hb)
        clear hb b0 b1 t0 t1 t2
        obtain ⟨b0, b1⟩ := D4.out.cells
        obtain ⟨t0, t1, t2, -⟩ := V4.out.cells
        go_wp2_with fail
        with_reducible refine (TC.out _ B4.out I4.out V4.out P4.out).mono ?_
        rintro e w5 ⟨rfl, hb, hi, hf⟩
        have B5 := Lib.hid hb
        have I5 := Lib.hid hi
        have D5 := Lib.hid (show DBlk w5 bd (.slice io l.length ic) (.slice po ps.length pc) from (hf bd D4.out.lt (I4.out.block D4.out)).trans D4.out)
        obtain ⟨c0, c1⟩ := D5.out.cells
        clear hb hi hf b0 b1 t0 t1 t2
        go_wp2_with fail
        go_ret2
        exact ⟨_, by rw [R.out]; rfl, B5.out, by rw [R.out, if_pos rfl]; exact irow_of_own I5.out⟩
set_option maxHeartbeats 8000000 in
set_option maxRecDepth 20000 in
theorem admit_out : RelC := fun w l lv s v h hr hs => by
  have AE := Lib.hid (show relE l s v = if mayV v = false then 1 else if upI l s = [] then 2 else if leV v (ownAt l s) = false then 1 else 0 from rfl)
  have BX := Lib.hid (below_al (Below.refl w.heap.size w) (.cells #[.int .i64 v.c, .int .i64 v.m, .int .i64 v.p] 24))
  have V0 := Lib.hid (CBlk.new w v)
  obtain ⟨t0, t1, t2, -⟩ := V0.out.cells
  cases hm : mayV v with
  | false =>
    have R := Lib.hid (show relE l s v = 1 from by rw [AE.out, if_pos hm])
    have DO := Lib.hid (fun W => pdoor1 W l lv s v hm)
    clear hm AE h hr
    go_enter Try.func12, Try.ntmps12
    go_wp2_with fail
    with_reducible refine (DO.out _).mono ?_
    rintro e w1 ⟨rfl, hb⟩
    have B1 := Lib.hid (below_al (below_tr BX.out hb) (.cells #[.slice none 0 0, .slice none 0 0] 53))
    clear hb t0 t1 t2
    go_wp2_with fail
    go_ret2
    exact ⟨.slice none 0 0, by rw [R.out]; rfl, B1.out, by rw [R.out]; exact IRow.nil _⟩
  | true =>
    by_cases hu : upI l s = []
    · have R := Lib.hid (show relE l s v = 2 from by rw [AE.out, if_neg (by rw [hm]; decide), if_pos hu])
      have DO := Lib.hid (fun W (hW : Below w.heap.size w W) => pdoor2 W l lv (h.below hW) hr s v hm hu)
      clear hm AE h hr hu
      go_enter Try.func12, Try.ntmps12
      go_wp2_with fail
      with_reducible refine (DO.out _ BX.out).mono ?_
      rintro e w1 ⟨rfl, hb⟩
      have B1 := Lib.hid (below_al (below_tr BX.out hb) (.cells #[.slice none 0 0, .slice none 0 0] 53))
      clear hb t0 t1 t2
      go_wp2_with fail
      go_ret2
      exact ⟨.slice none 0 0, by rw [R.out]; rfl, B1.out, by rw [R.out]; exact IRow.nil _⟩
    · have AE2 := Lib.hid (show relE l s v = if leV v (ownAt l s) = false then 1 else 0 from by rw [AE.out, if_neg (by rw [hm]; decide), if_neg hu])
      have DO := Lib.hid (fun W (hW : Below w.heap.size w W) => pdoor0 W l lv (h.below hW) hr s v hm hu)
      have HR := Lib.hid hr
      have HM := Lib.hid hm
      have HU := Lib.hid hu
      have UI : ∀ t ∈ upI l s, ∃ k, iIdx l t = some k := fun t ht => by obtain ⟨k, _, h1, -⟩ := up_found ht; exact ⟨k, h1⟩
      have PL := Lib.hid (ptsL_length UI)
      have U120 := Lib.hid (show (upI l s).length ≤ 120 from by have := HR.out.up s; have := HR.out.len; omega)
      obtain ⟨x, hx⟩ := up_look hu
      obtain ⟨xm, xn⟩ := look_name hx
      obtain ⟨k0, hk0, hlk0⟩ := look_at hx
      obtain ⟨r, hr0⟩ := up_head hr xm
      rw [xn] at hr0
      have U0 : (upI l s)[0]? = some s := by rw [hr0]; rfl
      have P0 := Lib.hid (ptsL_at UI U0 hk0)
      have ppos := Lib.hid (show 0 < (ptsL l (upI l s)).length from by rw [PL.out, hr0]; simp)
      have OA := Lib.hid (ownAt_at hx)
      rw [OA.out] at AE2
      have kl := Lib.hid (List.getElem?_eq_some_iff.1 hlk0).1
      have HLK := Lib.hid hlk0
      clear hx hk0 hlk0 hr0 U0 xm xn
      have CL := Lib.hid (fun W (u : V3) (hv : CBlk W w.heap.size v) (hq : mayV u = true) => prel1 W w.heap.size v u hv HM.out hq)
      clear hm AE h hr hu
      go_enter Try.func12, Try.ntmps12
      go_wp2_with fail
      with_reducible refine (DO.out _ BX.out).mono ?_
      rintro e w2 ⟨iv, uv, rfl, hb, hi, hp⟩
      have B2 := Lib.hid (below_tr BX.out hb)
      have V2 := Lib.hid (V0.out.below hb)
      have SZ := Lib.hid (show w.heap.size ≤ (w.alloc (.cells #[.int .i64 v.c, .int .i64 v.m, .int .i64 v.p] 24)).heap.size from BX.out.size)
      obtain ⟨po, pc, rfl⟩ := own_shape hp
      obtain ⟨io, ic, rfl⟩ := (irow_of_own hi).shape
      have RC := Lib.hid (fun W => vle_any W v x.own)
      obtain ⟨og, rfl⟩ : ∃ og, io = some ⟨og, 0, none⟩ := by
        rcases hi.2 with ⟨h1, h0⟩ | ⟨g, cap, cur, h1, -⟩
        · have := kl.out; omega
        · cases h1; exact ⟨g, rfl⟩
      obtain ⟨gp, eb, -⟩ := own_cell hp P0.out
      cases eb
      have ONE := Lib.hid (fun (W : World) (m : Nat) (hm : m = (ptsL l (upI l s)).length) (h : W.cell? ⟨gp, 0, none⟩ = some (.int .i64 (k0 : Int))) => by
        subst hm
        exact pone W og gp ic pc l.length _ k0 h kl.out ppos.out)
      have EL := Lib.hid (show l.map (admF (upI l s) s (negV v)) = relL l s v from rfl)
      have D3 := Lib.hid (DBlk.new w2 (.slice (some ⟨og, 0, none⟩) l.length ic) (.slice (some ⟨gp, 0, none⟩) (ptsL l (upI l s)).length pc))
      have DX := Lib.hid (below_al (Below.refl w2.heap.size w2) (.cells #[.slice (some ⟨og, 0, none⟩) l.length ic, .slice (some ⟨gp, 0, none⟩) (ptsL l (upI l s)).length pc] 53))
      have I3 := Lib.hid (show IOwn (w2.alloc (.cells #[.slice (some ⟨og, 0, none⟩) l.length ic, .slice (some ⟨gp, 0, none⟩) (ptsL l (upI l s)).length pc] 53)) w.heap.size l (.slice (some ⟨og, 0, none⟩) l.length ic) from World.ownsRow.alloc (own_lower0 hi SZ.out) _)
      have P3 := Lib.hid (World.ownsRow.alloc hp (.cells #[.slice (some ⟨og, 0, none⟩) l.length ic, .slice (some ⟨gp, 0, none⟩) (ptsL l (upI l s)).length pc] 53))
      have B3 := Lib.hid (below_tr B2.out DX.out)
      have V3' := Lib.hid (V2.out.below DX.out)
      have TC := Lib.hid (fun W (hB : Below w.heap.size w W) (ho : IOwn W w.heap.size l (.slice (some ⟨og, 0, none⟩) l.length ic)) (hv : CBlk W w.heap.size v) (hp : W.ownsRow (w.alloc (.cells #[.int .i64 v.c, .int .i64 v.m, .int .i64 v.p] 24)).heap.size 3 1 (.slice (some ⟨gp, 0, none⟩) (ptsL l (upI l s)).length pc) (ptsL l (upI l s)).length (natC (ptsL l (upI l s)))) => pturn W w l (.slice (some ⟨og, 0, none⟩) l.length ic) v (negV v) 32 w.heap.size (fun a W => run_enter Try.func32 (by kernel_rfl) (by kernel_rfl) a W) (fun W u hv hq => CL.out W u hv hq) hB ho hv HR.out s HU.out _ (.slice (some ⟨gp, 0, none⟩) (ptsL l (upI l s)).length pc) hp)
      rw [EL.out] at TC
      clear hb hi hp t0 t1 t2
      generalize ptsL l (upI l s) = ps at *
      obtain ⟨b0, b1⟩ := D3.out.cells
      obtain ⟨t0, t1, t2, -⟩ := V3'.out.cells
      have hmf : ∀ (fn : Fn) (first cap : Array Value) (w : World), (Instr.makeFunc fn first cap).run Try.prog w = .ok (.func fn first cap) w := fun _ _ _ _ => rfl
      go_upto_region 4 with fail
      generalize w2.alloc (.cells #[.slice (some ⟨og, 0, none⟩) l.length ic, .slice (some ⟨gp, 0, none⟩) ps.length pc] 53) = w3 at *
      generalize w2.heap.size = bd at *
      cases hq : leV v x.own with
      | false =>
        have R := Lib.hid (show relE l s v = 1 from by rw [AE2.out, if_pos hq])
        rw [hq] at RC
        clear hq AE2
        obtain ⟨a0, a1, a2, a3, a4, a5, a6, a7, a8, a9, a10, a11⟩ := I3.out.at HLK.out
        have p0 := (own_cell P3.out P0.out)
        obtain ⟨_, eb, p0⟩ := p0
        cases eb
        refine wp_region_mono (by kernel_rfl) (by kernel_rfl) ?_
        simp only [List.map_cons, List.map_nil, List.append_eq, List.cons_append, List.nil_append]
        repeat (first
          | (apply wpM_is
             · (intro us V hV hg K hK
                clear hg
                have d0 := hold hV b0
                have d1 := hold hV b1
                have d2 := hold hV t0
                have d3 := hold hV t1
                have d4 := hold hV t2
                have d5 := hold hV a5
                have d6 := hold hV a6
                have d7 := hold hV a7
                simp only [fillA]
                go_simp
                first
                | exact hK _ (Below.refl _ _)
                | ((with_reducible refine (ONE.out _ _ rfl (hold hV p0)).mono ?_); rintro e w' ⟨rfl, hb⟩; exact hK _ hb)
                | ((with_reducible refine (RC.out _).mono ?_); rintro e w' ⟨rfl, hb⟩; exact hK _ hb))
             simp only [setD, List.set_cons_zero, List.set_cons_succ]))
        intro us9 w4 hb hg
        simp only [fillA]
        have B4 := Lib.hid (B3.out.trans (hb.mono B3.out.size))
        have D4 := Lib.hid (D3.out.below hb)
        have V4 := Lib.hid (V3'.out.below hb)
        have I4 := Lib.hid (show IOwn w4 w.heap.size l (.slice _ l.length ic) from own_below I3.out hb)
        have P4 := Lib.hid (own_below P3.out hb)
        clear hg hb b0 b1 t0 t1 t2 a0 a1 a2 a3 a4 a5 a6 a7 a8 a9 a10 a11 p0
        go_wp2_with fail
        go_ret2
        exact ⟨.slice none 0 0, by rw [R.out]; rfl, B4.out, by rw [R.out]; exact IRow.nil _⟩
      | true =>
        have R := Lib.hid (show relE l s v = 0 from by rw [AE2.out, if_neg (by rw [hq]; decide)])
        rw [hq] at RC
        clear hq AE2
        obtain ⟨a0, a1, a2, a3, a4, a5, a6, a7, a8, a9, a10, a11⟩ := I3.out.at HLK.out
        have p0 := (own_cell P3.out P0.out)
        obtain ⟨_, eb, p0⟩ := p0
        cases eb
        refine wp_region_mono (by kernel_rfl) (by kernel_rfl) ?_
        simp only [List.map_cons, List.map_nil, List.append_eq, List.cons_append, List.nil_append]
        repeat (first
          | (apply wpM_is
             · (intro us V hV hg K hK
                clear hg
                have d0 := hold hV b0
                have d1 := hold hV b1
                have d2 := hold hV t0
                have d3 := hold hV t1
                have d4 := hold hV t2
                have d5 := hold hV a5
                have d6 := hold hV a6
                have d7 := hold hV a7
                simp only [fillA]
                go_simp
                first
                | exact hK _ (Below.refl _ _)
                | ((with_reducible refine (ONE.out _ _ rfl (hold hV p0)).mono ?_); rintro e w' ⟨rfl, hb⟩; exact hK _ hb)
                | ((with_reducible refine (RC.out _).mono ?_); rintro e w' ⟨rfl, hb⟩; exact hK _ hb))
             simp only [setD, List.set_cons_zero, List.set_cons_succ]))
        intro us9 w4 hb hg
        simp only [fillA]
        have B4 := Lib.hid (B3.out.trans (hb.mono B3.out.size))
        have D4 := Lib.hid (D3.out.below hb)
        have V4 := Lib.hid (V3'.out.below hb)
        have I4 := Lib.hid (show IOwn w4 w.heap.size l (.slice _ l.length ic) from own_below I3.out hb)
        have P4 := Lib.hid (own_below P3.out hb)
        clear hg hb b0 b1 t0 t1 t2 a0 a1 a2 a3 a4 a5 a6 a7 a8 a9 a10 a11 p0
        obtain ⟨b0, b1⟩ := D4.out.cells
        obtain ⟨t0, t1, t2, -⟩ := V4.out.cells
        go_wp2_with fail
        with_reducible refine (TC.out _ B4.out I4.out V4.out P4.out).mono ?_
        rintro e w5 ⟨rfl, hb, hi, hf⟩
        have B5 := Lib.hid hb
        have I5 := Lib.hid hi
        have D5 := Lib.hid (show DBlk w5 bd (.slice (some ⟨og, 0, none⟩) l.length ic) (.slice (some ⟨gp, 0, none⟩) ps.length pc) from (hf bd D4.out.lt (I4.out.block D4.out)).trans D4.out)
        obtain ⟨c0, c1⟩ := D5.out.cells
        clear hb hi hf b0 b1 t0 t1 t2
        go_wp2_with fail
        go_ret2
        exact ⟨_, by rw [R.out]; rfl, B5.out, by rw [R.out, if_pos rfl]; exact irow_of_own I5.out⟩
end Go.Proofs.Ytekaefeogbmmmaa
