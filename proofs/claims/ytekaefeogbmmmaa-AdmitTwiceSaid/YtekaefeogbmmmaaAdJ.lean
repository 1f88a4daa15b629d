/- The law of admit: just what there is room for is let in, and can be let out. -/
import Derived.Test.YtekaefeogbmmmaaAdE
import Derived.Test.YtekaefeogbmmmaaAdG
import Derived.Test.YtekaefeogbmmmaaTrV
namespace Go.Proofs.Ytekaefeogbmmmaa
open Go.RowKit
set_option linter.unusedVariables false
set_option linter.unusedSimpArgs false
/-- Has somebody above room for two resources? -/
def okR (l : List I12) (v : V3) (t : ByteArray) : Bool := match look l t with | some z => decide (z.sub.c + v.c ≤ z.lim.c) && decide (z.sub.m + v.m ≤ z.lim.m) | none => true
theorem okR_at {l : List I12} {v : V3} {t : ByteArray} {z : I12} (h : look l t = some z) : okR l v t = (decide (z.sub.c + v.c ≤ z.lim.c) && decide (z.sub.m + v.m ≤ z.lim.m)) := by unfold okR; rw [h]
theorem room_all {l : List I12} (h : RT l) {x : I12} (hx : x ∈ l) {v : V3} (hv : mayV v = true) (hp : v.p = 0) : (upI l x.name).all (okR l v) = true ↔ admE l x.name v = 0 := by
  rw [admE_iff h hx hv, List.all_eq_true]
  constructor
  · intro g z hz hm
    have h1 := g _ hm
    rw [okR_at (look_mem h.srt.uq hz), Bool.and_eq_true, decide_eq_true_eq, decide_eq_true_eq] at h1
    have h2 := le_iff.1 (one_iff.1 (h.one z hz)).2.2.2.2.2.1
    refine le_iff.2 ⟨h1.1, h1.2, ?_⟩
    show z.sub.p + v.p ≤ z.lim.p
    rw [hp]; omega
  · intro g t ht
    obtain ⟨k, z, hk, hz, hlk⟩ := up_found ht
    obtain ⟨zm, zn⟩ := look_name hlk
    have h1 := le_iff.1 (g z zm (by rw [zn]; exact ht))
    rw [okR_at hlk, Bool.and_eq_true, decide_eq_true_eq, decide_eq_true_eq]
    exact ⟨h1.1, h1.2.1⟩
theorem find_no {l : List I12} {t : ByteArray} (h : look l t = none) : findI l t = -1 ∧ upI l t = [] := by
  refine ⟨?_, upF_lnone h _⟩
  unfold findI
  rw [look_iff.1 h]
section
variable (w : World)
set_option maxHeartbeats 16000000 in
set_option maxRecDepth 100000 in
theorem law_admitroom (AC : AdmC) (RC : RelC) (ns : List Nat) (nv : Value) (which cpu mem : Nat) (hwh : which ≤ 255) (hcp : cpu ≤ 255) (hme : mem ≤ 255) (h : NumsRd .u8 w nv (ns.map fun n : Nat => (n : Int))) (hr : ∀ x ∈ ns, x ≤ 255) (hmx : ns.length ≤ maxLen) : Calls Try.prog 5 #[nv, .int .u8 (which : Int), .int .u8 (cpu : Int), .int .u8 (mem : Int)] w (Made (.bool true) w) := by
  have AW := Lib.hid (fun W => law_awake14 W AC)
  have NU := Lib.hid (fun W x => num14 W x)
  have HN := Lib.hid h
  have HRR := Lib.hid hr
  have ACC := Lib.hid AC
  have RCC := Lib.hid RC
  obtain ⟨ao, cap, rfl, hat⟩ := h
  simp only [List.length_map] at HN ⊢
  clear hat hr AC RC
  unfold maxLen at hmx
  have B0 := Lib.hid (Below.refl w.heap.size w)
  by_cases hbig : 90 < ns.length
  · have y0 : (90 : Int) < (ns.length : Int) := by omega
    go_enter Try.func5, Try.ntmps5
    go_wp2_with fail
    with_reducible refine (AW.out _).mono ?_
    rintro e w2 ⟨rfl, hb⟩
    have B2 := Lib.hid (below_tr B0.out hb)
    clear hb
    go_wp2_with fail
    go_ret
    exact ⟨rfl, B2.out⟩
  · have y0 : (ns.length : Int) ≤ 90 := by omega
    have MK := Lib.hid (lmakeT w ns (.slice ao ns.length cap) HN.out HRR.out (by omega))
    have MR := Lib.hid (make_right ns [] RT.nil (Nat.zero_le _))
    generalize makeT ns [] = l at *
    have RR := Lib.hid MR.out.1
    have hl24 : l.length ≤ 24 := MR.out.2
    go_enter Try.func5, Try.ntmps5
    go_wp2_with fail
    with_reducible refine MK.out.mono ?_
    rintro e w1 ⟨lv, rfl, hb1, ho1⟩
    have B1 := Lib.hid hb1
    have W1 := Lib.hid (irow_of_own ho1)
    obtain ⟨lo, lc, rfl⟩ := W1.out.shape
    clear hb1 ho1 B0
    by_cases hl0 : l.length = 0
    · rw [hl0]
      go_wp2_with fail
      with_reducible refine (AW.out _).mono ?_
      rintro e w2 ⟨rfl, hb⟩
      have B2 := Lib.hid (below_tr B1.out hb)
      clear hb
      go_wp2_with fail
      go_ret
      exact ⟨rfl, B2.out⟩
    · have lpos : 0 < l.length := by omega
      obtain ⟨p, hp⟩ : ∃ p, p = which % l.length := ⟨_, rfl⟩
      have pl : p < l.length := by rw [hp]; exact Nat.mod_lt _ lpos
      have hpi : (which : Int) % (l.length : Int) = (p : Int) := by rw [hp]; push_cast; rfl
      obtain ⟨x, hx⟩ : ∃ x, l[p]? = some x := ⟨_, List.getElem?_eq_getElem pl⟩
      have XM := Lib.hid (List.mem_of_getElem? hx)
      obtain ⟨gl, ol, eo, XA⟩ := (show ∃ g o, lo = some ⟨g, o, none⟩ ∧ I12At w1 g (o + p * 12) x from by
        obtain ⟨_, _, e9, _, _, h9⟩ := W1.out
        simp only [Value.slice.injEq, true_and] at e9
        obtain ⟨rfl, rfl⟩ := e9
        exact h9 p x hx)
      subst eo
      have k0 := XA.c0
      have nz : ((l.length : Int) == 0) = false := beq_false_of_ne (by omega)
      have z0 : (0 : Int) ≤ (p : Int) := by omega
      have z1 : (p : Int) < (l.length : Int) := by omega
      have z2 : (l.length : Int) ≠ 0 := by omega
      have wa : IntKind.i64.wrap (which : Int) = (which : Int) := by rw [IntKind.wrap_i64]; omega
      have wc : IntKind.i64.wrap (cpu : Int) = (cpu : Int) := by rw [IntKind.wrap_i64]; omega
      have wm : IntKind.i64.wrap (mem : Int) = (mem : Int) := by rw [IntKind.wrap_i64]; omega
      have ta : (which : Int).tmod (l.length : Int) = (p : Int) := by rw [hp]; rfl
      have NP := Lib.hid (show x.name.size ≤ maxLen by have := (RR.out.short x XM.out).1; unfold maxLen; omega)
      obtain ⟨v, hv0⟩ : ∃ v : V3, v = ⟨(cpu : Int), (mem : Int), 0⟩ := ⟨_, rfl⟩
      have hv := Lib.hid hv0
      have MV := Lib.hid (show mayV v = true from by rw [hv0]; exact may_iff.2 (by simp only; omega))
      have RA := Lib.hid (room_all RR.out XM.out MV.out (by rw [hv0]))
      have VB := Lib.hid (below_al (Below.refl w1.heap.size w1) (.cells #[.int .i64 (cpu : Int), .int .i64 (mem : Int), .int .i64 0] 24))
      have NB := Lib.hid (show CBlk (w1.alloc (.cells #[.int .i64 (cpu : Int), .int .i64 (mem : Int), .int .i64 0] 24)) w1.heap.size v from by rw [hv0]; exact CBlk.new w1 ⟨(cpu : Int), (mem : Int), 0⟩)
      have RF := Lib.hid (fun W (hW : Below w1.heap.size w1 W) t => rfind W l (.slice (some ⟨gl, ol, none⟩) l.length lc) (W1.out.below hW) t)
      clear hp hx XA hv0
      go_upto_region 9 with fail
      generalize w1.alloc (.cells #[.int .i64 (cpu : Int), .int .i64 (mem : Int), .int .i64 0] 24) = w2 at *
      go_wp2_with fail
      with_reducible refine (RF.out _ VB.out _).mono ?_
      rintro e w3 ⟨rfl, rfl⟩
      go_wp2_with fail
      go_loopg [12, 13] (upI l x.name).length (fun m rv kv wr => ∃ (pre : List ByteArray) (t : ByteArray), upI l x.name = pre ++ upI l t ∧ kv = .int .i64 (findI l t) ∧ rv = .bool (pre.all (okR l v)) ∧ (upI l t).length ≤ m ∧ Below w2.heap.size w2 wr)
      case atStart => exact ⟨[], x.name, rfl, rfl, rfl, Nat.le_refl _, Below.refl _ _⟩
      case round =>
        obtain ⟨pre, t, hu, rfl, rfl, hm, hb⟩ := hrel
        have HM := Lib.hid hm
        have HU := Lib.hid hu
        have BR := Lib.hid (below_tr VB.out hb)
        have NR := Lib.hid (NB.out.below hb)
        have B2R := Lib.hid hb
        clear hm hu hb
        cases hlk : look l t with
        | none =>
          obtain ⟨F0, U0⟩ := find_no hlk
          have RM := Lib.hid (show (pre.all (okR l v)) = true ↔ admE l x.name v = 0 from by
            have := RA.out
            rwa [HU.out, U0, List.append_nil] at this)
          rw [F0]
          clear hlk F0 U0
          have AM := Lib.hid (fun V (hV : Below w1.heap.size w1 V) => ACC.out V l _ x.name v (W1.out.below hV) RR.out NP.out)
          obtain ⟨e0, e1, e2, el⟩ := NR.out.cells
          rw [hv.out] at e0 e1 e2
          clear RA RF
          rcases admE_or RR.out XM.out MV.out with hE | hE
          · have HE := Lib.hid hE
            have hroom := RM.out.2 hE
            have RTA := Lib.hid (adm_ok RR.out hE)
            obtain ⟨j, hj, hlj⟩ := look_at (look_mem RR.out.srt.uq XM.out)
            have FA := Lib.hid (show findI (admL l x.name v) x.name = (j : Int) from by
              unfold findI admL
              rw [idx_map (f := admF (upI l x.name) x.name v) (fun _ => rfl), hj])
            have AJ := Lib.hid (show (admL l x.name v)[j]? = some (admF (upI l x.name) x.name v x) from by
              unfold admL
              rw [List.getElem?_map, hlj]; rfl)
            have AXM := Lib.hid (List.mem_of_getElem? AJ.out)
            have OM := may_bounds ((one_iff.1 (RTA.out.one _ AXM.out)).2.2.1)
            have RB := Lib.hid (rel_back RR.out XM.out MV.out)
            have RL := Lib.hid (rel_adm l x.name v)
            have RMO := Lib.hid (show relE (admL l x.name v) x.name ⟨0, 0, (admF (upI l x.name) x.name v x).own.p + 1⟩ = 1 from rel_more RTA.out AXM.out)
            have ALN := Lib.hid (adm_len l x.name v)
            have jl : j < l.length := (List.getElem?_eq_some_iff.1 hlj).1
            simp only [hE] at AM
            rw [hroom]
            unfold AdT at AM
            simp only [if_true] at AM
            clear hE hroom hj hlj RM
            generalize admF (upI l x.name) x.name v x = y at *
            generalize admL l x.name v = A at *
            have jA : j < A.length := by have := ALN.out; omega
            have y1 : (0 : Int) ≤ (j : Int) := by omega
            have y2 : (j : Int) < (A.length : Int) := by omega
            have y3 : ¬ (j : Int) < 0 := by omega
            have w7' : IntKind.i64.wrap (y.own.p + 1) = y.own.p + 1 := by rw [IntKind.wrap_i64]; omega
            rw [hv.out] at AM
            clear OM
            go_wp2_with fail
            with_reducible refine (AM.out _ BR.out).mono ?_
            rintro e w5 ⟨r5, rfl, hb, h5⟩
            have D5 := Lib.hid (below_tr BR.out hb)
            have N5 := Lib.hid (NR.out.below hb)
            have A5 := Lib.hid h5
            obtain ⟨ro5, rc5, rfl⟩ := h5.shape
            clear hb h5 e0 e1 e2 el
            have RG := Lib.hid (fun W (hW : Below w5.heap.size w5 W) => rright W A _ (A5.out.below hW) (fun z hz => (RTA.out.short z hz).1) true (iff_of_true rfl (right_iff.2 RTA.out)))
            go_wp2_with (go_at_call 15; (with_reducible refine (NU.out _ _).mono ?_); rintro e w'' ⟨rfl, rfl⟩)
            with_reducible refine (RG.out _ (Below.refl _ _)).mono ?_
            rintro e w6 ⟨rfl, hb⟩
            have B6 := Lib.hid hb
            have N6 := Lib.hid (N5.out.below hb)
            have A6 := Lib.hid (A5.out.below hb)
            clear hb
            have RF6 := Lib.hid (rfind w6 A _ A6.out x.name)
            rw [FA.out] at RF6
            go_wp2_with fail
            with_reducible refine RF6.out.mono ?_
            rintro e w7 ⟨rfl, rfl⟩
            have RE1 := Lib.hid (fun V (hV : Below w6.heap.size w6 V) => RCC.out V A _ x.name v (A6.out.below hV) RTA.out NP.out)
            have RE2 := Lib.hid (fun V (hV : Below w6.heap.size w6 V) => RCC.out V A _ x.name ⟨0, 0, y.own.p + 1⟩ (A6.out.below hV) RTA.out NP.out)
            simp only [RB.out, RL.out, RMO.out] at RE1 RE2
            unfold AdT at RE1 RE2
            simp only [if_true, show ((1 : Nat) = 0) = False from by simp, if_false] at RE1 RE2
            obtain ⟨e0, e1, e2, el⟩ := N6.out.cells
            rw [hv.out] at e0 e1 e2 RE1
            go_wp2_with fail
            with_reducible refine (RE1.out _ (Below.refl _ _)).mono ?_
            rintro e w8 ⟨r8, rfl, hb, h8⟩
            have B8 := Lib.hid hb
            have A8 := Lib.hid (A6.out.below hb)
            have L8 := Lib.hid h8
            obtain ⟨ro8, rc8, rfl⟩ := h8.shape
            obtain ⟨ga, oa, ea, ya⟩ := (show ∃ g o, ro5 = some ⟨g, o, none⟩ ∧ I12At w8 g (o + j * 12) y from by
              obtain ⟨_, _, e9, _, _, h9⟩ := A8.out
              simp only [Value.slice.injEq, true_and] at e9
              obtain ⟨rfl, rfl⟩ := e9
              exact h9 j y AJ.out)
            subst ea
            have c7 := ya.c7
            clear hb h8 e0 e1 e2 el ya
            go_wp2_with fail
            with_reducible refine (RE2.out _ B8.out).mono ?_
            rintro e w9 ⟨r9, rfl, hb, h9⟩
            have L9 := Lib.hid (L8.out.below hb)
            have B9 := Lib.hid (below_tr (below_tr (below_tr D5.out B6.out) B8.out) hb)
            have W9 := Lib.hid (W1.out.below B9.out)
            obtain ⟨ro9, rc9, rfl⟩ := h9.shape
            clear hb h9 c7
            have M9 := Lib.hid (fun W (hW : Below w9.heap.size w9 W) => rsame W l l _ _ (L9.out.below hW) (W9.out.below hW) (by omega) (by omega) true (iff_of_true rfl rfl))
            go_wp2_with (go_at_call 15; (with_reducible refine (NU.out _ _).mono ?_); rintro e w'' ⟨rfl, rfl⟩)
            with_reducible refine (M9.out _ (Below.refl _ _)).mono ?_
            rintro e w10 ⟨rfl, hb⟩
            have B10 := Lib.hid (below_tr (below_tr B1.out B9.out) hb)
            clear hb
            go_wp2_with (go_at_call 15; (with_reducible refine (NU.out _ _).mono ?_); rintro e w'' ⟨rfl, rfl⟩)
            with_reducible refine (AW.out _).mono ?_
            rintro e w11 ⟨rfl, hb⟩
            have B11 := Lib.hid (below_tr B10.out hb)
            clear hb
            go_wp2_with fail
            go_ret
            exact ⟨rfl, B11.out⟩
          · have hroom : pre.all (okR l v) = false := by
              rw [← Bool.not_eq_true]
              intro h
              rw [RM.out.1 h] at hE
              cases hE
            simp only [hE] at AM
            rw [hroom]
            unfold AdT at AM
            simp only [show ((12 : Nat) = 0) = False from by simp, if_false] at AM
            rw [hv.out] at AM
            clear hE hroom RM
            go_wp2_with fail
            with_reducible refine (AM.out _ BR.out).mono ?_
            rintro e w5 ⟨r5, rfl, hb, h5⟩
            have D5 := Lib.hid (below_tr BR.out hb)
            obtain ⟨ro5, rc5, rfl⟩ := h5.shape
            clear hb h5 e0 e1 e2 el
            go_wp2_with (go_at_call 15; (with_reducible refine (NU.out _ _).mono ?_); rintro e w'' ⟨rfl, rfl⟩)
            with_reducible refine (AW.out _).mono ?_
            rintro e w6 ⟨rfl, hb⟩
            have D6 := Lib.hid (below_tr (below_tr B1.out D5.out) hb)
            clear hb
            go_wp2_with fail
            go_ret
            exact ⟨rfl, D6.out⟩
        | some z =>
          obtain ⟨ZM, zn⟩ := look_name hlk
          obtain ⟨j, hj, hlj⟩ := look_at hlk
          have HLK := Lib.hid hlk
          have UC := Lib.hid (show upI l t = t :: upI l z.parent from by rw [← zn]; exact up_cons RR.out ZM)
          have UPN := Lib.hid (show upI l x.name = (pre ++ [t]) ++ upI l z.parent from by rw [HU.out, UC.out]; simp)
          have MS := Lib.hid (show (upI l z.parent).length < _ from by have h1 := HM.out; rw [UC.out, List.length_cons] at h1; exact h1)
          have FE : findI l t = (j : Int) := by unfold findI; rw [hj]
          have ZB := may_bounds ((one_iff.1 (RR.out.one z ZM)).2.2.2.2.2.2)
          rw [FE]
          obtain ⟨_, _, e9, _, _, h9⟩ := W1.out.below BR.out
          simp only [Value.slice.injEq, true_and] at e9
          obtain ⟨rfl, rfl⟩ := e9
          obtain ⟨_, _, e10, hc⟩ := h9 j z hlj
          cases e10
          obtain ⟨k0, k1, k2, k3, k4, k5, k6, k7, k8, k9, k10, k11⟩ := hc
          obtain ⟨e0, e1, e2, el⟩ := NR.out.cells
          have jl : j < l.length := (List.getElem?_eq_some_iff.1 hlj).1
          have y1 : (0 : Int) ≤ (j : Int) := by omega
          have y2 : (j : Int) < (l.length : Int) := by omega
          have w8 : IntKind.i64.wrap (z.sub.c + (cpu : Int)) = z.sub.c + (cpu : Int) := by rw [IntKind.wrap_i64]; omega
          have w9 : IntKind.i64.wrap (z.sub.m + (mem : Int)) = z.sub.m + (mem : Int) := by rw [IntKind.wrap_i64]; omega
          rw [hv.out] at e0 e1 e2
          clear hlk ZM hj hlj FE ZB h9 zn
          go_upto_region 12 with fail
          clear NR
          cases hq : pre.all (okR l v) with
          | false =>
            have ST := Lib.hid (show (pre ++ [t]).all (okR l v) = false from by rw [List.all_append, hq]; rfl)
            clear hq
            refine wp_region_mono (by kernel_rfl) (by kernel_rfl) ?_
            simp only [List.map_cons, List.map_nil, List.append_eq, List.cons_append, List.nil_append]
            repeat (first
              | (apply wpM_is
                 · (intro us W hW hg K hK
                    clear hg
                    have d0 := hold hW k2
                    have d1 := hold hW k3
                    have d2 := hold hW k8
                    have d3 := hold hW k9
                    have d4 := hold hW e0
                    have d5 := hold hW e1
                    simp only [fillA]
                    go_simp
                    first
                    | exact hK _ (Below.refl _ _))
                 simp only [setD, List.set_cons_zero, List.set_cons_succ]))
            intro us W hW hg
            simp only [fillA]
            clear hg
            have BN := Lib.hid (below_tr BR.out hW)
            have n1 := hold hW k1
            have B2N := Lib.hid (below_tr B2R.out hW)
            clear k0 k1 k2 k3 k4 k5 k6 k7 k8 k9 k10 k11 e0 e1 e2 hW
            go_wp2_with fail
            with_reducible refine (RF.out _ BN.out z.parent).mono ?_
            rintro e w7 ⟨rfl, rfl⟩
            go_wp2_with fail
            go_roundg (upI l z.parent).length
            case rel => exact ⟨pre ++ [t], z.parent, UPN.out, rfl, by rw [ST.out], Nat.le_refl _, B2N.out⟩
            case measure => exact MS.out
          | true =>
            have ST0 := Lib.hid (show (pre ++ [t]).all (okR l v) = (decide (z.sub.c + (cpu : Int) ≤ z.lim.c) && decide (z.sub.m + (mem : Int) ≤ z.lim.m)) from by rw [List.all_append, hq, Bool.true_and, List.all_cons, List.all_nil, Bool.and_true, okR_at HLK.out, hv.out])
            clear hq
            by_cases h1 : z.sub.c + (cpu : Int) ≤ z.lim.c
            · by_cases h2 : z.sub.m + (mem : Int) ≤ z.lim.m
              · have ST := Lib.hid (show (pre ++ [t]).all (okR l v) = true from by rw [ST0.out, decide_eq_true h1, decide_eq_true h2]; rfl)
                refine wp_region_mono (by kernel_rfl) (by kernel_rfl) ?_
                simp only [List.map_cons, List.map_nil, List.append_eq, List.cons_append, List.nil_append]
                repeat (first
                  | (apply wpM_is
                     · (intro us W hW hg K hK
                        clear hg
                        have d0 := hold hW k2
                        have d1 := hold hW k3
                        have d2 := hold hW k8
                        have d3 := hold hW k9
                        have d4 := hold hW e0
                        have d5 := hold hW e1
                        simp only [fillA]
                        go_simp
                        first
                        | exact hK _ (Below.refl _ _))
                     simp only [setD, List.set_cons_zero, List.set_cons_succ]))
                intro us W hW hg
                simp only [fillA]
                clear hg
                have BN := Lib.hid (below_tr BR.out hW)
                have n1 := hold hW k1
                have B2N := Lib.hid (below_tr B2R.out hW)
                clear k0 k1 k2 k3 k4 k5 k6 k7 k8 k9 k10 k11 e0 e1 e2 hW
                go_wp2_with fail
                with_reducible refine (RF.out _ BN.out z.parent).mono ?_
                rintro e w7 ⟨rfl, rfl⟩
                go_wp2_with fail
                go_roundg (upI l z.parent).length
                case rel => exact ⟨pre ++ [t], z.parent, UPN.out, rfl, by rw [ST.out], Nat.le_refl _, B2N.out⟩
                case measure => exact MS.out
              · have ST := Lib.hid (show (pre ++ [t]).all (okR l v) = false from by rw [ST0.out, decide_eq_true h1, decide_eq_false h2]; rfl)
                refine wp_region_mono (by kernel_rfl) (by kernel_rfl) ?_
                simp only [List.map_cons, List.map_nil, List.append_eq, List.cons_append, List.nil_append]
                repeat (first
                  | (apply wpM_is
                     · (intro us W hW hg K hK
                        clear hg
                        have d0 := hold hW k2
                        have d1 := hold hW k3
                        have d2 := hold hW k8
                        have d3 := hold hW k9
                        have d4 := hold hW e0
                        have d5 := hold hW e1
                        simp only [fillA]
                        go_simp
                        first
                        | exact hK _ (Below.refl _ _))
                     simp only [setD, List.set_cons_zero, List.set_cons_succ]))
                intro us W hW hg
                simp only [fillA]
                clear hg
                have BN := Lib.hid (below_tr BR.out hW)
                have n1 := hold hW k1
                have B2N := Lib.hid (below_tr B2R.out hW)
                clear k0 k1 k2 k3 k4 k5 k6 k7 k8 k9 k10 k11 e0 e1 e2 hW
                go_wp2_with fail
                with_reducible refine (RF.out _ BN.out z.parent).mono ?_
                rintro e w7 ⟨rfl, rfl⟩
                go_wp2_with fail
                go_roundg (upI l z.parent).length
                case rel => exact ⟨pre ++ [t], z.parent, UPN.out, rfl, by rw [ST.out], Nat.le_refl _, B2N.out⟩
                case measure => exact MS.out
            · have ST := Lib.hid (show (pre ++ [t]).all (okR l v) = false from by rw [ST0.out, decide_eq_false h1]; rfl)
              refine wp_region_mono (by kernel_rfl) (by kernel_rfl) ?_
              simp only [List.map_cons, List.map_nil, List.append_eq, List.cons_append, List.nil_append]
              repeat (first
                | (apply wpM_is
                   · (intro us W hW hg K hK
                      clear hg
                      have d0 := hold hW k2
                      have d1 := hold hW k3
                      have d2 := hold hW k8
                      have d3 := hold hW k9
                      have d4 := hold hW e0
                      have d5 := hold hW e1
                      simp only [fillA]
                      go_simp
                      first
                      | exact hK _ (Below.refl _ _))
                   simp only [setD, List.set_cons_zero, List.set_cons_succ]))
              intro us W hW hg
              simp only [fillA]
              clear hg
              have BN := Lib.hid (below_tr BR.out hW)
              have n1 := hold hW k1
              have B2N := Lib.hid (below_tr B2R.out hW)
              clear k0 k1 k2 k3 k4 k5 k6 k7 k8 k9 k10 k11 e0 e1 e2 hW
              go_wp2_with fail
              with_reducible refine (RF.out _ BN.out z.parent).mono ?_
              rintro e w7 ⟨rfl, rfl⟩
              go_wp2_with fail
              go_roundg (upI l z.parent).length
              case rel => exact ⟨pre ++ [t], z.parent, UPN.out, rfl, by rw [ST.out], Nat.le_refl _, B2N.out⟩
              case measure => exact MS.out
end
end Go.Proofs.Ytekaefeogbmmmaa
