/- Package tree: names rise; each may be by itself. -/
import Derived.Test.YtjhakingdadfaaaTrN
import Derived.Test.YtjhakingdadfaaaMono
namespace Go.Proofs.Ytjhakingdadfaaa
open Go.RowKit
set_option linter.unusedVariables false
set_option linter.unusedSimpArgs false
theorem size_pos {s : ByteArray} : s = ⟨#[]⟩ ↔ s.size = 0 := by
  constructor
  · rintro rfl; rfl
  · intro h
    cases s with
    | mk d =>
      have : d.size = 0 := h
      rw [Array.eq_empty_of_size_eq_zero this]
theorem nameB_size (s : ByteArray) : nameB s = (decide (1 ≤ s.size) && decide (s.size ≤ 24)) := by
  unfold nameB
  congr 1
  rw [← decide_not]
  exact decide_eq_decide.2 (by rw [size_pos]; omega)
section
variable (w : World)
set_option maxHeartbeats 4000000 in
set_option maxRecDepth 20000 in
theorem prise (l : List I12) (lv : Value) (h : IRow w l lv) (hl : l.length ≤ 1000) (bb : Bool) (hb1 : bb = true ↔ Srt l) :
    Calls Try.prog 20 #[lv] w (Made (.bool bb) w) := by
  obtain ⟨ao, cap, rfl, hcap, hmax, hat⟩ := h
  have HAT := Lib.hid hat
  have HBB := Lib.hid (hb1.trans rise_srt.symm)
  clear hat hcap hmax hb1
  go_enter Try.func20, Try.ntmps20
  go_wp2_with fail
  go_loopg [6] l.length (fun m iv wr => ∃ k : Nat, iv = .int .i64 k ∧ l.length - k ≤ m ∧ k ≤ l.length ∧ Below w.heap.size w wr ∧ Hid (allI l (riseB l) k))
  case atStart => exact ⟨0, rfl, Nat.le_refl _, Nat.zero_le _, Below.refl _ _, Lib.hid (fun j y hj => by omega)⟩
  case round =>
    obtain ⟨k, rfl, hm, hk, hb, OK⟩ := hrel
    have HM := Lib.hid hm
    have BR := Lib.hid hb
    clear hm hb
    by_cases hlt : k < l.length
    · obtain ⟨u, hu⟩ : ∃ u, l[k]? = some u := ⟨_, List.getElem?_eq_getElem hlt⟩
      have HU := Lib.hid hu
      obtain ⟨g, o, rfl, hcu⟩ := HAT.out k u hu
      have k0 := (hcu.below BR.out).c0
      have NO := Lib.hid (show riseB l k u = false → bb = false from fun h => Bool.eq_false_iff.2 (fun e => by
        have := HBB.out.1 e k u hlt HU.out
        rw [h] at this; cases this))
      have YES := Lib.hid (show riseB l k u = true → allI l (riseB l) (k + 1) from fun h => OK.out.next HU.out h)
      clear hu hcu OK
      cases k with
      | zero =>
        have NX := Lib.hid (YES.out rfl)
        clear NO YES
        have kz := hlt
        simp only [Nat.zero_mul, Nat.add_zero] at k0
        go_wp2_with fail
        refine wp_region_mono (by kernel_rfl) (by kernel_rfl) ?_
        simp only [List.map_cons, List.map_nil, List.append_eq, List.cons_append, List.nil_append]
        repeat (first
          | (apply wpM_is
             · (intro us W hW hg K hK
                clear hg
                have d0 := hold hW k0
                simp only [fillA]
                go_simp
                first
                | exact hK _ (Below.refl _ _))
             simp only [setD, List.set_cons_zero, List.set_cons_succ]))
        intro us W hW hg
        simp only [fillA]
        clear hg
        have BW := Lib.hid (below_tr BR.out hW)
        go_wp2_with fail
        go_roundg (l.length - (0 + 1))
        case rel => exact ⟨0 + 1, by go_num, Nat.le_refl _, hlt, BW.out, NX⟩
        case measure => have := HM.out; omega
      | succ j =>
        have hj : j < l.length := by omega
        obtain ⟨y, hy⟩ : ∃ y, l[j]? = some y := ⟨_, List.getElem?_eq_getElem hj⟩
        obtain ⟨g', o', e', hcy⟩ := HAT.out j y hy
        simp only [Option.some.injEq, Addr.mk.injEq, and_true] at e'
        obtain ⟨rfl, rfl⟩ := e'
        have y0 := (hcy.below BR.out).c0
        have RS : Hid (riseB l (j + 1) u = Op.bytesLess y.name.toList u.name.toList) := Lib.hid (by
          unfold riseB
          simp only [hy]
          rfl)
        clear hy hcy
        obtain ⟨kk, hkk⟩ : ∃ kk, kk = j + 1 := ⟨_, rfl⟩
        have kp : (0 : Int) < (kk : Int) := by omega
        have kp2 : 0 < kk := by omega
        have qe : (kk : Int) - 1 = (j : Int) := by omega
        have q1 : (j : Int) < (l.length : Int) := by omega
        have q0 : (0 : Int) ≤ (j : Int) := by omega
        have wq : IntKind.i64.wrap (j : Int) = (j : Int) := by rw [IntKind.wrap_i64]; omega
        rw [← hkk] at NO YES RS hlt hk k0 HM HU ⊢
        clear hkk
        cases hr : Op.bytesLess y.name.toList u.name.toList with
        | false =>
          have R := Lib.hid (NO.out (RS.out.trans hr))
          clear NO YES RS
          go_wp2_with fail
          refine wp_region_mono (by kernel_rfl) (by kernel_rfl) ?_
          simp only [List.map_cons, List.map_nil, List.append_eq, List.cons_append, List.nil_append]
          repeat (first
            | (apply wpM_is
               · (intro us W hW hg K hK
                  clear hg
                  have d0 := hold hW k0
                  have d1 := hold hW y0
                  simp only [fillA]
                  go_simp
                  first
                  | exact hK _ (Below.refl _ _))
               simp only [setD, List.set_cons_zero, List.set_cons_succ]))
          intro us W hW hg
          simp only [fillA]
          clear hg
          have BW := Lib.hid (below_tr BR.out hW)
          go_wp2_with fail
          go_ret
          exact ⟨by rw [R.out]; rfl, BW.out⟩
        | true =>
          have NX := Lib.hid (YES.out (RS.out.trans hr))
          clear NO YES RS
          go_wp2_with fail
          refine wp_region_mono (by kernel_rfl) (by kernel_rfl) ?_
          simp only [List.map_cons, List.map_nil, List.append_eq, List.cons_append, List.nil_append]
          repeat (first
            | (apply wpM_is
               · (intro us W hW hg K hK
                  clear hg
                  have d0 := hold hW k0
                  have d1 := hold hW y0
                  simp only [fillA]
                  go_simp
                  first
                  | exact hK _ (Below.refl _ _))
               simp only [setD, List.set_cons_zero, List.set_cons_succ]))
          intro us W hW hg
          simp only [fillA]
          clear hg
          have BW := Lib.hid (below_tr BR.out hW)
          go_wp2_with fail
          go_roundg (l.length - (kk + 1))
          case rel => exact ⟨kk + 1, by go_num, Nat.le_refl _, hlt, BW.out, NX⟩
          case measure => have := HM.out; omega
    · obtain rfl : k = l.length := by omega
      have R := Lib.hid (HBB.out.2 OK.out)
      go_wp2_with fail
      go_ret
      exact ⟨by rw [R.out]; rfl, BR.out⟩
set_option maxHeartbeats 8000000 in
set_option maxRecDepth 20000 in
theorem pself (x : I12) (hs : x.name.size ≤ 1000000) :
    Calls Try.prog 37 #[x.val] w (Made (.bool (selfB x)) w) := by
  have SB := Lib.hid (show selfB x = ((decide (1 ≤ x.name.size) && decide (x.name.size ≤ 24)) && (decide (1 ≤ x.ver) && (decide (x.ver ≤ 9007199254740992) && (mayV x.lim && (mayV x.own && mayV x.sub))))) from by unfold selfB; rw [nameB_size])
  have BX := Lib.hid (below_al (Below.refl w.heap.size w) (.cells #[.string x.name, .string x.parent, .int .i64 x.lim.c, .int .i64 x.lim.m, .int .i64 x.lim.p, .int .i64 x.own.c, .int .i64 x.own.m, .int .i64 x.own.p, .int .i64 x.sub.c, .int .i64 x.sub.m, .int .i64 x.sub.p, .int .i64 x.ver] 32))
  have IB := Lib.hid (IBlk.new w x)
  have ML := Lib.hid (fun W => vmay_any W x.lim)
  have MO := Lib.hid (fun W => vmay_any W x.own)
  have MS := Lib.hid (fun W => vmay_any W x.sub)
  unfold I12.val I12.cells
  by_cases a1 : 1 ≤ x.name.size
  · have b1 : (1 : Int) ≤ (x.name.size : Int) := by omega
    by_cases a2 : x.name.size ≤ 24
    · have b2 : (x.name.size : Int) ≤ 24 := by omega
      have N1 := Lib.hid a1
      have N2 := Lib.hid a2
      clear a1 a2
      by_cases a3 : 1 ≤ x.ver
      · by_cases a4 : x.ver ≤ 9007199254740992
        · have SC := Lib.hid (show selfB x = (mayV x.lim && (mayV x.own && mayV x.sub)) from by rw [SB.out, decide_eq_true N1.out, decide_eq_true N2.out, decide_eq_true a3, decide_eq_true a4]; rfl)
          clear SB N1 N2
          generalize mayV x.lim = q1 at *
          generalize mayV x.own = q2 at *
          generalize mayV x.sub = q3 at *
          cases q1 with
          | false =>
            have R := Lib.hid (show selfB x = false from SC.out)
            clear SC
            go_enter Try.func37, Try.ntmps37
            go_wp2_with fail
            with_reducible refine (ML.out _).mono ?_
            rintro e w1 ⟨rfl, hb⟩
            have B1 := Lib.hid (below_tr BX.out hb)
            clear hb
            go_wp2_with fail
            go_ret
            exact ⟨by rw [R.out]; rfl, B1.out⟩
          | true =>
            cases q2 with
            | false =>
              have R := Lib.hid (show selfB x = false from SC.out)
              clear SC
              go_enter Try.func37, Try.ntmps37
              go_wp2_with fail
              with_reducible refine (ML.out _).mono ?_
              rintro e w1 ⟨rfl, hb⟩
              have B1 := Lib.hid (below_tr BX.out hb)
              obtain ⟨c0, c1, c2, c3, c4, c5, c6, c7, c8, c9, c10, c11⟩ := (IB.out.below hb).cells
              simp only [Nat.zero_add] at c0 c1 c2 c3 c4 c5 c6 c7 c8 c9 c10 c11
              clear hb
              go_wp2_with fail
              with_reducible refine (MO.out _).mono ?_
              rintro e w2 ⟨rfl, hb⟩
              have B2 := Lib.hid (below_tr B1.out hb)
              clear hb
              go_wp2_with fail
              go_ret
              exact ⟨by rw [R.out]; rfl, B2.out⟩
            | true =>
              have R := Lib.hid (show selfB x = q3 from SC.out)
              clear SC
              go_enter Try.func37, Try.ntmps37
              go_wp2_with fail
              with_reducible refine (ML.out _).mono ?_
              rintro e w1 ⟨rfl, hb⟩
              have B1 := Lib.hid (below_tr BX.out hb)
              have I1 := Lib.hid (IB.out.below hb)
              obtain ⟨c0, c1, c2, c3, c4, c5, c6, c7, c8, c9, c10, c11⟩ := I1.out.cells
              simp only [Nat.zero_add] at c0 c1 c2 c3 c4 c5 c6 c7 c8 c9 c10 c11
              clear hb
              go_wp2_with fail
              with_reducible refine (MO.out _).mono ?_
              rintro e w2 ⟨rfl, hb⟩
              clear c0 c1 c2 c3 c4 c5 c6 c7 c8 c9 c10 c11
              have B2 := Lib.hid (below_tr B1.out hb)
              obtain ⟨c0, c1, c2, c3, c4, c5, c6, c7, c8, c9, c10, c11⟩ := (I1.out.below hb).cells
              simp only [Nat.zero_add] at c0 c1 c2 c3 c4 c5 c6 c7 c8 c9 c10 c11
              clear hb
              go_wp2_with fail
              with_reducible refine (MS.out _).mono ?_
              rintro e w3 ⟨rfl, hb⟩
              have B3 := Lib.hid (below_tr B2.out hb)
              clear hb
              go_wp2_with fail
              go_ret
              exact ⟨by rw [R.out]; rfl, B3.out⟩
        · have R := Lib.hid (show selfB x = false from by rw [SB.out, decide_eq_false a4]; simp)
          clear SB
          have b4 : 9007199254740992 < x.ver := by omega
          go_enter Try.func37, Try.ntmps37
          go_wp2_with fail
          go_ret
          exact ⟨by rw [R.out]; rfl, BX.out⟩
      · have R := Lib.hid (show selfB x = false from by rw [SB.out, decide_eq_false a3]; simp)
        clear SB
        have b3 : x.ver < 1 := by omega
        go_enter Try.func37, Try.ntmps37
        go_wp2_with fail
        go_ret
        exact ⟨by rw [R.out]; rfl, BX.out⟩
    · have R := Lib.hid (show selfB x = false from by rw [SB.out, decide_eq_false a2]; simp)
      clear SB
      have b2 : (24 : Int) < (x.name.size : Int) := by omega
      clear a1 a2
      go_enter Try.func37, Try.ntmps37
      go_wp2_with fail
      go_ret
      exact ⟨by rw [R.out]; rfl, BX.out⟩
  · have R := Lib.hid (show selfB x = false from by rw [SB.out, decide_eq_false a1]; rfl)
    clear SB
    have b2 : (x.name.size : Int) < 1 := by omega
    clear a1
    go_enter Try.func37, Try.ntmps37
    go_wp2_with fail
    go_ret
    exact ⟨by rw [R.out]; rfl, BX.out⟩
theorem pmayF (x : I12) (hs : x.name.size ≤ 1000000) :
    Calls Try.prog 36 #[x.val] w (Made (.bool (!selfB x)) w) := by
  have PS := Lib.hid (fun W => pself W x hs)
  unfold I12.val I12.cells at *
  go_enter Try.func36, Try.ntmps36
  go_wp2_with fail
  with_reducible refine (PS.out _).mono ?_
  rintro e w1 ⟨rfl, hb⟩
  have B1 := Lib.hid (below_tr (below_al (Below.refl w.heap.size w) _) hb)
  go_wp2_with fail
  go_ret
  exact ⟨rfl, B1.out⟩
/-- The first place of one that may not be. -/
def badI (l : List I12) : Int := match l.findIdx? (fun x => !selfB x) with | some k => (k : Int) | none => -1
set_option maxHeartbeats 4000000 in
set_option maxRecDepth 20000 in
theorem pindexF (l : List I12) (lv : Value) (h : IRow w l lv) (hl : l.length ≤ 1000) (hs : ∀ x ∈ l, x.name.size ≤ 1000000) :
    Calls Try.prog 46 #[lv, .func (.func 36) #[] #[]] w (Made (.int .i64 (badI l)) w) := by
  obtain ⟨ao, cap, rfl, hcap, hmax, hat⟩ := h
  have HAT := Lib.hid hat
  have HS := Lib.hid hs
  clear hat hcap hmax hs
  go_enter Try.func46, Try.ntmps46
  go_wp2_with fail
  go_loopg [8] l.length (fun m iv wr => ∃ k : Nat, iv = .int .i64 k ∧ l.length - k ≤ m ∧ k ≤ l.length ∧ Below w.heap.size w wr ∧ Hid (∀ j y, j < k → l[j]? = some y → selfB y = true))
  case atStart => exact ⟨0, rfl, Nat.le_refl _, Nat.zero_le _, Below.refl _ _, Lib.hid (fun j y hj => by omega)⟩
  case round =>
    obtain ⟨k, rfl, hm, hk, hb, OK⟩ := hrel
    have HM := Lib.hid hm
    have BR := Lib.hid hb
    clear hm hb
    by_cases hlt : k < l.length
    · obtain ⟨u, hu⟩ : ∃ u, l[k]? = some u := ⟨_, List.getElem?_eq_getElem hlt⟩
      have HU := Lib.hid hu
      obtain ⟨g, o, rfl, hcu⟩ := HAT.out k u hu
      obtain ⟨k0, k1, k2, k3, k4, k5, k6, k7, k8, k9, k10, k11⟩ := hcu.below BR.out
      have PF := Lib.hid (fun W => pmayF W u (HS.out u (List.mem_of_getElem? HU.out)))
      unfold I12.val I12.cells at PF
      clear hu hcu
      have x0 : (0 : Int) ≤ (k : Int) := by omega
      have x1 : (k : Int) < (l.length : Int) := by omega
      cases hq : selfB u with
      | false =>
        have R := Lib.hid (show badI l = (k : Int) from by
          unfold badI
          rw [show l.findIdx? (fun x => !selfB x) = some k from by
            rw [List.findIdx?_eq_some_iff_getElem]
            obtain ⟨h1, h2⟩ := List.getElem?_eq_some_iff.1 HU.out
            refine ⟨h1, by rw [h2, hq]; rfl, fun j hj => ?_⟩
            simp [OK.out j _ hj (List.getElem?_eq_getElem (by omega))]])
        rw [hq] at PF
        clear hq OK
        go_wp2_with fail
        with_reducible refine (PF.out _).mono ?_
        rintro e w1 ⟨rfl, hb⟩
        have B1 := Lib.hid (below_tr BR.out hb)
        clear hb
        go_wp2_with fail
        go_ret
        exact ⟨by rw [R.out]; rfl, B1.out⟩
      | true =>
        have NX := Lib.hid (show ∀ j y, j < k + 1 → l[j]? = some y → selfB y = true from fun j y hj hy => by
          by_cases e : j = k
          · subst e
            obtain rfl : u = y := Option.some.inj (HU.out.symm.trans hy)
            exact hq
          · exact OK.out j y (by omega) hy)
        rw [hq] at PF
        clear hq OK
        go_wp2_with fail
        with_reducible refine (PF.out _).mono ?_
        rintro e w1 ⟨rfl, hb⟩
        have B1 := Lib.hid (below_tr BR.out hb)
        clear hb
        go_wp2_with fail
        go_roundg (l.length - (k + 1))
        case rel => exact ⟨k + 1, by go_num, Nat.le_refl _, hlt, B1.out, NX⟩
        case measure => have := HM.out; omega
    · obtain rfl : k = l.length := by omega
      have R := Lib.hid (show badI l = -1 from by
        unfold badI
        rw [show l.findIdx? (fun x => !selfB x) = none from by
          rw [List.findIdx?_eq_none_iff]
          intro x hx
          obtain ⟨j, hj, rfl⟩ := List.mem_iff_getElem.1 hx
          rw [OK.out j _ hj (List.getElem?_eq_getElem hj)]; rfl])
      go_wp2_with fail
      go_ret
      exact ⟨by rw [R.out]; rfl, BR.out⟩
theorem badI_none {l : List I12} : badI l = -1 ↔ ∀ x ∈ l, selfB x = true := by
  unfold badI
  cases h : l.findIdx? (fun x => !selfB x) with
  | none =>
    rw [List.findIdx?_eq_none_iff] at h
    refine ⟨fun _ x hx => by simpa using h x hx, fun _ => rfl⟩
  | some k =>
    rw [List.findIdx?_eq_some_iff_getElem] at h
    obtain ⟨hk, h1, -⟩ := h
    constructor
    · intro e; simp only at e; omega
    · intro e
      rw [e _ (List.getElem_mem hk)] at h1; cases h1
theorem badI_ge (l : List I12) : badI l = -1 ∨ 0 ≤ badI l := by
  unfold badI
  split
  · right; omega
  · left; rfl
set_option maxHeartbeats 4000000 in
set_option maxRecDepth 20000 in
theorem pmay (l : List I12) (lv : Value) (h : IRow w l lv) (hl : l.length ≤ 1000) (hs : ∀ x ∈ l, x.name.size ≤ 1000000) (bb : Bool) (hb1 : bb = true ↔ ∀ x ∈ l, selfB x = true) :
    Calls Try.prog 21 #[lv] w (Made (.bool bb) w) := by
  have PI := Lib.hid (fun W (hW : Below w.heap.size w W) => pindexF W l lv (h.below hW) hl hs)
  have HB := Lib.hid (badI_none.trans hb1.symm)
  obtain ⟨ao, cap, rfl⟩ := h.shape
  have GE := badI_ge l
  generalize badI l = q at *
  clear h hs hb1
  have CF : Hid (∀ W (hW : Below w.heap.size w W), Calls Try.prog 35 #[.slice ao l.length cap, .func (.func 36) #[] #[]] W (Made (.bool (!bb)) W)) := Lib.hid fun W hW => by
    rcases GE with rfl | ge
    · have hbb : bb = true := HB.out.1 rfl
      subst hbb
      go_enter Try.func35, Try.ntmps35
      go_wp2_with fail
      with_reducible refine (PI.out W hW).mono ?_
      rintro e w1 ⟨rfl, hb⟩
      have B1 := Lib.hid hb
      clear hb
      go_wp2_with fail
      go_ret
      exact ⟨rfl, B1.out⟩
    · have hbb : bb = false := Bool.eq_false_iff.2 (fun e => by have := HB.out.2 e; omega)
      subst hbb
      go_enter Try.func35, Try.ntmps35
      go_wp2_with fail
      with_reducible refine (PI.out W hW).mono ?_
      rintro e w1 ⟨rfl, hb⟩
      have B1 := Lib.hid hb
      clear hb
      go_wp2_with fail
      go_ret
      exact ⟨by simp, B1.out⟩
  clear GE HB PI
  go_enter Try.func21, Try.ntmps21
  go_wp2_with fail
  with_reducible refine (CF.out w (Below.refl _ _)).mono ?_
  rintro e w1 ⟨rfl, hb⟩
  have B1 := Lib.hid hb
  clear hb
  go_wp2_with fail
  go_ret
  exact ⟨by simp, B1.out⟩
end
end Go.Proofs.Ytjhakingdadfaaa
