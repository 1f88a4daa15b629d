/- Package admit: whether there is room on the way. -/
import Derived.Test.YtekaefeogbmmmaaAdP
import Derived.Test.YtekaefeogbmmmaaVecN
namespace Go.Proofs.Ytekaefeogbmmmaa
open Go.RowKit
set_option linter.unusedVariables false
set_option linter.unusedSimpArgs false
def fitAt (l : List I12) (v : V3) (j : Nat) : Bool := match l[j]? with | some x => leV (addV x.sub v) x.lim | none => true
theorem fitAt_at {l : List I12} {v : V3} {j : Nat} {x : I12} (h : l[j]? = some x) : fitAt l v j = leV (addV x.sub v) x.lim := by unfold fitAt; rw [h]
def badR (l : List I12) (v : V3) (ps : List Nat) : Int := match ps.findIdx? (fun j => !fitAt l v j) with | some k => (k : Int) | none => -1
theorem badR_all (l : List I12) (v : V3) (ps : List Nat) : decide (0 ≤ badR l v ps) = !ps.all (fitAt l v) := by
  unfold badR
  cases h : ps.findIdx? (fun j => !fitAt l v j) with
  | none =>
    rw [List.findIdx?_eq_none_iff] at h
    have : ps.all (fitAt l v) = true := List.all_eq_true.2 fun j hj => by simpa using h j hj
    rw [this]; rfl
  | some k =>
    obtain ⟨hk, h1, -⟩ := List.findIdx?_eq_some_iff_getElem.1 h
    have : ps.all (fitAt l v) = false := by
      rw [List.all_eq_false]
      exact ⟨ps[k], List.getElem_mem hk, by simpa using h1⟩
    rw [this]
    show decide ((0 : Int) ≤ (k : Int)) = true
    exact decide_eq_true (by omega)
theorem pts_room {l : List I12} (h : RT l) {us : List ByteArray} (hu : ∀ t ∈ us, ∃ (k : Nat) (x : I12), iIdx l t = some k ∧ l[k]? = some x ∧ look l t = some x) (v : V3) : (ptsL l us).all (fitAt l v) = roomB l us v := by
  rw [Bool.eq_iff_iff]
  unfold roomB
  rw [List.all_eq_true, List.all_eq_true]
  constructor
  · intro g x hx
    by_cases hm : x.name ∈ us
    · obtain ⟨k, y, h1, h2, h3⟩ := hu _ hm
      have := g k (by unfold ptsL; rw [List.mem_filterMap]; exact ⟨_, hm, h1⟩)
      rw [fitAt_at h2] at this
      have e := look_mem h.srt.uq hx
      rw [h3] at e
      obtain rfl := Option.some.inj e
      rw [this, Bool.or_true]
    · rw [decide_eq_false hm]; rfl
  · intro g j hj
    unfold ptsL at hj
    rw [List.mem_filterMap] at hj
    obtain ⟨t, ht, he⟩ := hj
    obtain ⟨k, y, h1, h2, h3⟩ := hu t ht
    rw [he] at h1
    obtain rfl := Option.some.inj h1
    rw [fitAt_at h2]
    obtain ⟨ym, yn⟩ := look_name h3
    have := g y ym
    rwa [decide_eq_true (show y.name ∈ us by rw [yn]; exact ht), Bool.not_true, Bool.false_or] at this
section
variable (w : World)
set_option maxHeartbeats 8000000 in
set_option maxRecDepth 20000 in
theorem proomF (l : List I12) (iv uv : Value) (gd gb : Nat) (v : V3) (h : IRow w l iv) (hd : DBlk w gd iv uv) (hv : CBlk w gb v) (hu : v.Upto 2199023255552) (j : Nat) (x : I12) (hx : l[j]? = some x) (hm : mayV x.sub = true) :
    Calls Try.prog 42 #[.int .i64 (j : Int), .pointer (some ⟨gd, 0, none⟩), .pointer (some ⟨gb, 0, none⟩)] w (Made (.bool (!fitAt l v j)) w) := by
  rw [fitAt_at hx]
  have jl : j < l.length := (List.getElem?_eq_some_iff.1 hx).1
  have AD := Lib.hid (show ∀ W lv, VRow W [x.sub, v] lv → Calls Try.prog 27 #[lv] W (Made (.agg #[.int .i64 (addV x.sub v).c, .int .i64 (addV x.sub v).m, .int .i64 (addV x.sub v).p]) W) from fun W lv hr => by
    have := vadd_any W [x.sub, v] lv hr (by simp) (by
      have h1 := may_bounds hm
      simp only [List.mem_cons, List.not_mem_nil, or_false]
      rintro z (rfl | rfl)
      · unfold V3.Upto; omega
      · unfold V3.Upto at *; omega)
    rwa [two_sum] at this)
  have LE := Lib.hid (fun W => vle_any W (addV x.sub v) x.lim)
  obtain ⟨ao, cap, rfl⟩ := h.shape
  obtain ⟨g, o, eo, hat⟩ := (show ∃ g o, ao = some ⟨g, o, none⟩ ∧ I12At w g (o + j * 12) x from by
    obtain ⟨_, _, e9, _, _, h9⟩ := h
    simp only [Value.slice.injEq, true_and] at e9
    obtain ⟨rfl, rfl⟩ := e9
    exact h9 j x hx)
  subst eo
  obtain ⟨k0, k1, k2, k3, k4, k5, k6, k7, k8, k9, k10, k11⟩ := hat
  obtain ⟨b0, b1⟩ := hd.cells
  obtain ⟨t0, t1, t2, -⟩ := hv.cells
  have y0 : (0 : Int) ≤ (j : Int) := by omega
  have y1 : (j : Int) < (l.length : Int) := by omega
  generalize addV x.sub v = s at *
  generalize leV s x.lim = q at *
  clear h hx hm hd hv hu k0 k1 k5 k6 k7 k11 b1
  go_enter Try.func42, Try.ntmps42
  go_wp2_with fail
  refine wp_region_mono (by kernel_rfl) (by kernel_rfl) ?_
  simp only [List.map_cons, List.map_nil, List.append_eq, List.cons_append, List.nil_append]
  repeat (first
    | (apply wpM_is
       · (intro us W hW hg K hK
          clear hg
          have d0 := hold hW b0
          have d1 := hold hW t0
          have d2 := hold hW t1
          have d3 := hold hW t2
          have d4 := hold hW k8
          have d5 := hold hW k9
          have d6 := hold hW k10
          simp only [fillA]
          go_simp
          first
          | exact hK _ (Below.refl _ _))
       simp only [setD, List.set_cons_zero, List.set_cons_succ]))
  refine wpM_any (fun z W => VRow W [x.sub, v] z) (fun z W W' h hb => h.below hb) ?_ ?_
  · intro us W hW hg K hK
    clear hg
    simp only [fillA]
    go_simp
    exact hK _ _ (vrow_new [x.sub, v] (heap_alloc_new _ _)) (below_al (Below.refl _ _) _)
  simp only [setD, List.set_cons_zero, List.set_cons_succ]
  apply wpM_is
  · intro us W hW hg K hK
    have h0 := hg 12 (List.elem_iff.1 (by kernel_rfl)) _ rfl
    clear hg
    simp only [fillA]
    go_simp
    (with_reducible refine (AD.out _ _ h0).mono ?_)
    rintro e w' ⟨rfl, hb⟩
    exact hK _ hb
  simp only [setD, List.set_cons_zero, List.set_cons_succ]
  repeat (first
    | (apply wpM_is
       · (intro us W hW hg K hK
          clear hg
          have d0 := hold hW b0
          have d4 := hold hW k2
          have d5 := hold hW k3
          have d6 := hold hW k4
          simp only [fillA]
          go_simp
          first
          | exact hK _ (Below.refl _ _)
          | ((with_reducible refine (LE.out _).mono ?_); rintro e w' ⟨rfl, hb⟩; exact hK _ hb))
       simp only [setD, List.set_cons_zero, List.set_cons_succ]))
  intro us W hW hg
  simp only [fillA]
  clear hg
  have BW := Lib.hid hW
  clear hW b0 t0 t1 t2 k2 k3 k4 k8 k9 k10
  go_wp2_with fail
  go_ret
  exact ⟨rfl, BW.out⟩
set_option maxHeartbeats 8000000 in
set_option maxRecDepth 20000 in
theorem pindexR (l : List I12) (iv uv : Value) (gd gb : Nat) (v : V3) (h : IRow w l iv) (hd : DBlk w gd iv uv) (hv : CBlk w gb v) (hu : v.Upto 2199023255552) (hm : ∀ x ∈ l, mayV x.sub = true) (B : Nat) (ps : List Nat) (pv : Value) (hp : w.ownsRow B 3 1 pv ps.length (natC ps)) (hl : ps.length ≤ 1000) (hj : ∀ j ∈ ps, j < l.length) :
    Calls Try.prog 46 #[pv, .func (.func 42) #[] #[.pointer (some ⟨gd, 0, none⟩), .pointer (some ⟨gb, 0, none⟩)]] w (Made (.int .i64 (badR l v ps)) w) := by
  have PF := Lib.hid (fun W (hW : Below w.heap.size w W) j x hx => proomF W l iv uv gd gb v (h.below hW) (hd.below hW) (hv.below hW) hu j x hx (hm x (List.mem_of_getElem? hx)))
  have HP := Lib.hid hp
  have HJ := Lib.hid hj
  obtain ⟨po, pc, rfl⟩ := own_shape hp
  clear h hd hv hu hm hp hj
  go_enter Try.func46, Try.ntmps46
  go_wp2_with fail
  go_loopg [8] ps.length (fun m kv wr => ∃ k : Nat, kv = .int .i64 (k : Int) ∧ ps.length - k ≤ m ∧ k ≤ ps.length ∧ Below w.heap.size w wr ∧ Hid (∀ j y, j < k → ps[j]? = some y → fitAt l v y = true))
  case atStart => exact ⟨0, rfl, Nat.le_refl _, Nat.zero_le _, Below.refl _ _, Lib.hid (fun j y hj => by omega)⟩
  case round =>
    obtain ⟨k, rfl, hm, hk, hb, OK⟩ := hrel
    have HM := Lib.hid hm
    have BR := Lib.hid hb
    clear hm hb
    by_cases hlt : k < ps.length
    · obtain ⟨j, hu⟩ : ∃ j, ps[k]? = some j := ⟨_, List.getElem?_eq_getElem hlt⟩
      have HU := Lib.hid hu
      obtain ⟨x, hx⟩ : ∃ x, l[j]? = some x := ⟨_, List.getElem?_eq_getElem (HJ.out j (List.mem_of_getElem? hu))⟩
      obtain ⟨gp, rfl, c0⟩ := own_cell (own_below HP.out BR.out) hu
      have PF1 := Lib.hid (PF.out wr BR.out j x hx)
      have x0 : (0 : Int) ≤ (k : Int) := by omega
      have x1 : (k : Int) < (ps.length : Int) := by omega
      clear hu hx
      cases hq : fitAt l v j with
      | false =>
        have R := Lib.hid (show badR l v ps = (k : Int) from by
          unfold badR
          rw [show ps.findIdx? (fun j => !fitAt l v j) = some k from by
            rw [List.findIdx?_eq_some_iff_getElem]
            obtain ⟨h1, h2⟩ := List.getElem?_eq_some_iff.1 HU.out
            refine ⟨h1, by rw [h2, hq]; rfl, fun j hj => ?_⟩
            simp [OK.out j _ hj (List.getElem?_eq_getElem (by omega))]])
        rw [hq] at PF1
        clear hq OK
        go_wp2_with fail
        with_reducible refine PF1.out.mono ?_
        rintro e w1 ⟨rfl, hb⟩
        have B1 := Lib.hid (below_tr BR.out hb)
        clear hb
        go_wp2_with fail
        go_ret
        exact ⟨by rw [R.out]; rfl, B1.out⟩
      | true =>
        have NX := Lib.hid (show ∀ i y, i < k + 1 → ps[i]? = some y → fitAt l v y = true from fun i y hi hy => by
          by_cases e : i = k
          · subst e
            obtain rfl : j = y := Option.some.inj (HU.out.symm.trans hy)
            exact hq
          · exact OK.out i y (by omega) hy)
        rw [hq] at PF1
        clear hq OK
        go_wp2_with fail
        with_reducible refine PF1.out.mono ?_
        rintro e w1 ⟨rfl, hb⟩
        have B1 := Lib.hid (below_tr BR.out hb)
        clear hb
        go_wp2_with fail
        go_roundg (ps.length - (k + 1))
        case rel => exact ⟨k + 1, by go_num, Nat.le_refl _, hlt, B1.out, NX⟩
        case measure => have := HM.out; omega
    · obtain rfl : k = ps.length := by omega
      have R := Lib.hid (show badR l v ps = -1 from by
        unfold badR
        rw [show ps.findIdx? (fun j => !fitAt l v j) = none from by
          rw [List.findIdx?_eq_none_iff]
          intro x hx
          obtain ⟨j, hj, rfl⟩ := List.mem_iff_getElem.1 hx
          rw [OK.out j _ hj (List.getElem?_eq_getElem hj)]; rfl])
      go_wp2_with fail
      go_ret
      exact ⟨by rw [R.out]; rfl, BR.out⟩
set_option maxHeartbeats 8000000 in
set_option maxRecDepth 20000 in
theorem pcontR (l : List I12) (iv uv : Value) (gd gb : Nat) (v : V3) (h : IRow w l iv) (hd : DBlk w gd iv uv) (hv : CBlk w gb v) (hu : v.Upto 2199023255552) (hm : ∀ x ∈ l, mayV x.sub = true) (B : Nat) (ps : List Nat) (pv : Value) (hp : w.ownsRow B 3 1 pv ps.length (natC ps)) (hl : ps.length ≤ 1000) (hj : ∀ j ∈ ps, j < l.length) :
    Calls Try.prog 41 #[pv, .func (.func 42) #[] #[.pointer (some ⟨gd, 0, none⟩), .pointer (some ⟨gb, 0, none⟩)]] w (Made (.bool (!ps.all (fitAt l v))) w) := by
  have PI := Lib.hid (pindexR w l iv uv gd gb v h hd hv hu hm B ps pv hp hl hj)
  obtain ⟨po, pc, rfl⟩ := own_shape hp
  have R := Lib.hid (badR_all l v ps)
  generalize badR l v ps = r at *
  generalize ps.all (fitAt l v) = q at *
  clear h hd hv hu hm hp hj
  have D : ∀ b : Bool, decide (0 ≤ r) = b → decide (0 ≤ r) = b := fun b hb => hb
  have D2 := D _ R.out
  clear D
  go_enter Try.func41, Try.ntmps41
  go_wp2_with fail
  with_reducible refine PI.out.mono ?_
  rintro e w1 ⟨rfl, hb⟩
  have B1 := Lib.hid hb
  clear hb
  go_wp2_with fail
  go_ret
  exact ⟨rfl, B1.out⟩
set_option maxHeartbeats 8000000 in
set_option maxRecDepth 20000 in
theorem proom (l : List I12) (iv : Value) (v : V3) (h : IRow w l iv) (hu : v.Upto 2199023255552) (hm : ∀ x ∈ l, mayV x.sub = true) (B : Nat) (ps : List Nat) (pv : Value) (hp : w.ownsRow B 3 1 pv ps.length (natC ps)) (hl : ps.length ≤ 1000) (hj : ∀ j ∈ ps, j < l.length) :
    Calls Try.prog 24 #[.agg #[iv, pv], .agg #[.int .i64 v.c, .int .i64 v.m, .int .i64 v.p]] w (Made (.bool (ps.all (fitAt l v))) w) := by
  have BX := Lib.hid (below_al (below_al (Below.refl w.heap.size w) (.cells #[iv, pv] 53)) (.cells #[.int .i64 v.c, .int .i64 v.m, .int .i64 v.p] 24))
  have D0 := Lib.hid ((DBlk.new w iv pv).below (below_al (Below.refl _ (w.alloc (.cells #[iv, pv] 53))) (.cells #[.int .i64 v.c, .int .i64 v.m, .int .i64 v.p] 24)))
  have V0 := Lib.hid (show CBlk ((w.alloc (.cells #[iv, pv] 53)).alloc (.cells #[.int .i64 v.c, .int .i64 v.m, .int .i64 v.p] 24)) (w.heap.size + 1) v from heap_at (by simp))
  have CF := Lib.hid (pcontR _ l iv pv w.heap.size (w.heap.size + 1) v (h.below BX.out) D0.out V0.out hu hm B ps pv (own_below hp BX.out) hl hj)
  obtain ⟨po, pc, rfl⟩ := own_shape hp
  obtain ⟨io, ic, rfl⟩ := h.shape
  obtain ⟨b0, b1⟩ := D0.out.cells
  have hmf : ∀ (fn : Fn) (first cap : Array Value) (w : World), (Instr.makeFunc fn first cap).run Try.prog w = .ok (.func fn first cap) w := fun _ _ _ _ => rfl
  generalize ps.all (fitAt l v) = q at *
  clear h hu hm hp hj
  go_enter Try.func24, Try.ntmps24
  go_wp2_with fail
  with_reducible refine CF.out.mono ?_
  rintro e w1 ⟨rfl, hb⟩
  have B1 := Lib.hid (below_tr BX.out hb)
  clear hb b0 b1
  go_wp2_with fail
  go_ret
  exact ⟨by simp, B1.out⟩
end
end Go.Proofs.Ytekaefeogbmmmaa
