/- The law of admit: two, one behind the other. -/
import Derived.Test.YtekaefeogbmmmaaAdE
import Derived.Test.YtekaefeogbmmmaaAdG
import Derived.Test.YtekaefeogbmmmaaTrV
namespace Go.Proofs.Ytekaefeogbmmmaa
open Go.RowKit
set_option linter.unusedVariables false
set_option linter.unusedSimpArgs false
section
variable (w : World)
set_option maxHeartbeats 16000000 in
set_option maxRecDepth 100000 in
theorem law_admittwice (AC : AdmC) (ns : List Nat) (nv : Value) (a b x y : Nat) (ha : a ≤ 255) (hb : b ≤ 255) (hx : x ≤ 255) (hy : y ≤ 255) (h : NumsRd .u8 w nv (ns.map fun n : Nat => (n : Int))) (hr : ∀ x ∈ ns, x ≤ 255) (hmx : ns.length ≤ maxLen) : Calls Try.prog 6 #[nv, .int .u8 (a : Int), .int .u8 (b : Int), .int .u8 (x : Int), .int .u8 (y : Int)] w (Made (.bool true) w) := by
  have AW := Lib.hid (fun W => law_awake14 W AC)
  have NU := Lib.hid (fun W x => num14 W x)
  have HN := Lib.hid h
  have HRR := Lib.hid hr
  have ACC := Lib.hid AC
  obtain ⟨ao, cap, rfl, hat⟩ := h
  simp only [List.length_map] at HN ⊢
  clear hat hr AC
  unfold maxLen at hmx
  have B0 := Lib.hid (Below.refl w.heap.size w)
  by_cases hbig : 90 < ns.length
  · have y0 : (90 : Int) < (ns.length : Int) := by omega
    go_enter Try.func6, Try.ntmps6
    go_wp2_with fail
    with_reducible refine (AW.out _).mono ?_
    rintro e w2 ⟨rfl, hb⟩
    have B2 := Lib.hid (below_tr B0.out hb)
    clear hb
    go_wp2_with fail
    go_ret
    exact ⟨rfl, B2.out⟩
  · have y0 : (ns.length : Int) ≤ 90 := by omega
    have MK := Lib.hid (lmakeT w ns (.slice ao ns.length cap) HN.out HRR.out (by omega))
    have MR := Lib.hid (make_right ns [] RT.nil (Nat.zero_le _))
    generalize makeT ns [] = l at *
    have RR := Lib.hid MR.out.1
    have hl24 : l.length ≤ 24 := MR.out.2
    go_enter Try.func6, Try.ntmps6
    go_wp2_with fail
    with_reducible refine MK.out.mono ?_
    rintro e w1 ⟨lv, rfl, hb1, ho1⟩
    have B1 := Lib.hid hb1
    have W1 := Lib.hid (irow_of_own ho1)
    obtain ⟨lo, lc, rfl⟩ := W1.out.shape
    clear hb1 ho1 B0
    by_cases hl0 : l.length = 0
    · rw [hl0]
      go_wp2_with fail
      with_reducible refine (AW.out _).mono ?_
      rintro e w2 ⟨rfl, hb⟩
      have B2 := Lib.hid (below_tr B1.out hb)
      clear hb
      go_wp2_with fail
      go_ret
      exact ⟨rfl, B2.out⟩
    · have lpos : 0 < l.length := by omega
      obtain ⟨p, hp⟩ : ∃ p, p = a % l.length := ⟨_, rfl⟩
      obtain ⟨q, hq⟩ : ∃ q, q = b % l.length := ⟨_, rfl⟩
      have pl : p < l.length := by rw [hp]; exact Nat.mod_lt _ lpos
      have ql : q < l.length := by rw [hq]; exact Nat.mod_lt _ lpos
      have hpi : (a : Int) % (l.length : Int) = (p : Int) := by rw [hp]; push_cast; rfl
      have hqi : (b : Int) % (l.length : Int) = (q : Int) := by rw [hq]; push_cast; rfl
      obtain ⟨P, hP⟩ : ∃ P, l[p]? = some P := ⟨_, List.getElem?_eq_getElem pl⟩
      obtain ⟨Q, hQ⟩ : ∃ Q, l[q]? = some Q := ⟨_, List.getElem?_eq_getElem ql⟩
      have PM := Lib.hid (List.mem_of_getElem? hP)
      have QM := Lib.hid (List.mem_of_getElem? hQ)
      have WL := W1.out
      obtain ⟨_, _, e8, -, -, hat8⟩ := WL
      simp only [Value.slice.injEq, true_and] at e8
      obtain ⟨rfl, rfl⟩ := e8
      obtain ⟨gl, ol, rfl, hc8⟩ := hat8 p P hP
      obtain ⟨_, _, e9, hc9⟩ := hat8 q Q hQ
      cases e9
      have k0 := hc8.c0
      have j0 := hc9.c0
      have nz : ((l.length : Int) == 0) = false := beq_false_of_ne (by omega)
      have z0 : (0 : Int) ≤ (p : Int) := by omega
      have z1 : (p : Int) < (l.length : Int) := by omega
      have z2 : (l.length : Int) ≠ 0 := by omega
      have z3' : (0 : Int) ≤ (q : Int) := by omega
      have z4 : (q : Int) < (l.length : Int) := by omega
      have NP := Lib.hid (show P.name.size ≤ maxLen by have := (RR.out.short P PM.out).1; unfold maxLen; omega)
      have NQ := Lib.hid (show Q.name.size ≤ maxLen by have := (RR.out.short Q QM.out).1; unfold maxLen; omega)
      obtain ⟨u1, hu1⟩ : ∃ u1 : Nat, u1 = x % 30 := ⟨_, rfl⟩
      obtain ⟨u2, hu2⟩ : ∃ u2 : Nat, u2 = x / 30 := ⟨_, rfl⟩
      obtain ⟨v1, hv1⟩ : ∃ v1 : Nat, v1 = y % 30 := ⟨_, rfl⟩
      obtain ⟨v2, hv2⟩ : ∃ v2 : Nat, v2 = y / 30 := ⟨_, rfl⟩
      have q1 : (x : Int) % 30 = (u1 : Int) := by rw [hu1]; push_cast; rfl
      have q2 : (x : Int) / 30 = (u2 : Int) := by rw [hu2]; push_cast; rfl
      have q3 : (y : Int) % 30 = (v1 : Int) := by rw [hv1]; push_cast; rfl
      have q4 : (y : Int) / 30 = (v2 : Int) := by rw [hv2]; push_cast; rfl
      have wa : IntKind.i64.wrap (a : Int) = (a : Int) := by rw [IntKind.wrap_i64]; omega
      have wb : IntKind.i64.wrap (b : Int) = (b : Int) := by rw [IntKind.wrap_i64]; omega
      have ta : (a : Int).tmod (l.length : Int) = (p : Int) := by rw [hp]; rfl
      have tb : (b : Int).tmod (l.length : Int) = (q : Int) := by rw [hq]; rfl
      have bu1 : u1 ≤ 255 := by omega
      have bu2 : u2 ≤ 255 := by omega
      have bv1 : v1 ≤ 255 := by omega
      have bv2 : v2 ≤ 255 := by omega
      have HU := Lib.hid (show mayV ⟨(u1 : Int), (u2 : Int), 0⟩ = true from may_iff.2 (by simp only; omega))
      have HV := Lib.hid (show mayV ⟨(v1 : Int), 0, (v2 : Int)⟩ = true from may_iff.2 (by simp only; omega))
      have HUV := Lib.hid (show mayV (addV ⟨(u1 : Int), (u2 : Int), 0⟩ ⟨(v1 : Int), 0, (v2 : Int)⟩) = true from may_iff.2 (by simp only [addV]; omega))
      clear hp hq hP hQ hat8 hc8 hc9 hu1 hu2 hv1 hv2 bu1 bu2 bv1 bv2
      go_wp2_with fail
      refine wp_region_mono (by kernel_rfl) (by kernel_rfl) ?_
      simp only [List.map_cons, List.map_nil, List.append_eq, List.cons_append, List.nil_append]
      repeat (first
        | (apply wpM_is
           · (intro us W hW hg K hK
              clear hg
              have d0 := hold hW k0
              have d1 := hold hW j0
              simp only [fillA]
              go_simp
              first
              | exact hK _ (Below.refl _ _))
           simp only [setD, List.set_cons_zero, List.set_cons_succ]))
      intro us W hW hg
      simp only [fillA]
      clear hg k0 j0 hpi hqi nz wa wb ta tb z0 z1 z2 z3' z4
      have BW := Lib.hid hW
      have WW := Lib.hid (W1.out.below hW)
      clear hW
      have CU := Lib.hid (CBlk.new W ⟨(u1 : Int), (u2 : Int), 0⟩)
      have CU2 := Lib.hid (CU.out.al (.cells #[.int .i64 (v1 : Int), .int .i64 0, .int .i64 (v2 : Int)] 24))
      have CX := Lib.hid (show CBlk ((W.alloc (.cells #[.int .i64 (u1 : Int), .int .i64 (u2 : Int), .int .i64 0] 24)).alloc (.cells #[.int .i64 (v1 : Int), .int .i64 0, .int .i64 (v2 : Int)] 24)) (W.heap.size + 1) ⟨(v1 : Int), 0, (v2 : Int)⟩ from heap_at (by simp))
      have BX := Lib.hid (below_tr BW.out (below_al (below_al (Below.refl W.heap.size W) (.cells #[.int .i64 (u1 : Int), .int .i64 (u2 : Int), .int .i64 0] 24)) (.cells #[.int .i64 (v1 : Int), .int .i64 0, .int .i64 (v2 : Int)] 24)))
      go_upto_region 8 with fail
      have A1 := Lib.hid (fun V (hV : Below w1.heap.size w1 V) => ACC.out V l _ P.name ⟨(u1 : Int), (u2 : Int), 0⟩ (W1.out.below hV) RR.out NP.out)
      have A3 := Lib.hid (fun V (hV : Below w1.heap.size w1 V) => ACC.out V l _ Q.name ⟨(v1 : Int), 0, (v2 : Int)⟩ (W1.out.below hV) RR.out NQ.out)
      have A5 := Lib.hid (fun V (hV : Below w1.heap.size w1 V) => ACC.out V l _ P.name (addV ⟨(u1 : Int), (u2 : Int), 0⟩ ⟨(v1 : Int), 0, (v2 : Int)⟩) (W1.out.below hV) RR.out NP.out)
      have AD := Lib.hid (fun V => radd2_any V ⟨(u1 : Int), (u2 : Int), 0⟩ ⟨(v1 : Int), 0, (v2 : Int)⟩ (by
        have := may_bounds HUV.out
        unfold V3.I; omega))
      unfold AdT at A1 A3 A5
      generalize (W.alloc (.cells #[.int .i64 (u1 : Int), .int .i64 (u2 : Int), .int .i64 0] 24)).alloc (.cells #[.int .i64 (v1 : Int), .int .i64 0, .int .i64 (v2 : Int)] 24) = W2 at *
      generalize W.heap.size = bu at *
      generalize hUU : (⟨(u1 : Int), (u2 : Int), 0⟩ : V3) = U at *
      generalize hVV : (⟨(v1 : Int), 0, (v2 : Int)⟩ : V3) = V at *
      have eu1 : (u1 : Int) = U.c := by rw [← hUU]
      have eu2 : (u2 : Int) = U.m := by rw [← hUU]
      have eu3 : (0 : Int) = U.p := by rw [← hUU]
      have CU3 := Lib.hid CU2.out.cells
      have CX3 := Lib.hid CX.out.cells
      obtain ⟨e0, e1, e2, el⟩ := CU3.out
      obtain ⟨f0, f1, f2, fl⟩ := CX3.out
      clear eu1 eu2 eu3 CU CU3 CX3 hUU hVV
      go_wp2_with fail
      with_reducible refine (A1.out _ BX.out).mono ?_
      rintro e w3 ⟨r3, rfl, hb, h3⟩
      have B3 := Lib.hid (below_tr BX.out hb)
      have U3 := Lib.hid (CU2.out.below hb)
      have V3' := Lib.hid (CX.out.below hb)
      have R3 := Lib.hid h3
      obtain ⟨ro3, rc3, rfl⟩ := h3.shape
      clear hb h3 e0 e1 e2 el f0 f1 f2 fl A1
      by_cases E1 : admE l P.name U = 0
      · rw [if_pos E1] at R3
        rw [if_pos E1, E1]
        have RM := Lib.hid (adm_ok RR.out E1)
        obtain ⟨Q', qm', qn'⟩ := adm_mem QM.out P.name U
        have OR2 := Lib.hid (by have := admE_or RM.out qm' HV.out; rwa [qn'] at this)
        have TW := Lib.hid (fun h2 => twice RR.out PM.out QM.out HU.out HV.out E1 h2)
        have BO := Lib.hid (fun (e : Q.name = P.name) (h2 : admE (admL l P.name U) Q.name V = 0) => both RR.out PM.out HU.out HV.out HUV.out E1 (by rwa [e] at h2))
        have A2 := Lib.hid (fun X (hX : Below w3.heap.size w3 X) => ACC.out X _ _ Q.name V (R3.out.below hX) RM.out NQ.out)
        unfold AdT at A2
        have CM := Lib.hid (adm_comm l P.name Q.name U V)
        have CB := Lib.hid (fun (e : Q.name = P.name) => (show admL l P.name (addV U V) = admL (admL l P.name U) Q.name V by rw [e, adm_both]))
        have ML := Lib.hid (adm_len l P.name U)
        have ML2 := Lib.hid (adm_len (admL l P.name U) Q.name V)
        generalize admL l P.name U = m at *
        have XE : ((0 : Nat) : Int) = 0 := rfl
        simp only [XE]
        obtain ⟨f0, f1, f2, fl⟩ := V3'.out.cells
        clear qm' qn' XE E1
        go_wp2_with (go_at_call 15; (with_reducible refine (NU.out _ _).mono ?_); rintro e w'' ⟨rfl, rfl⟩)
        with_reducible refine (A2.out _ (Below.refl _ _)).mono ?_
        rintro e w4 ⟨r4, rfl, hb, h4⟩
        have B4 := Lib.hid (below_tr B3.out hb)
        have U4 := Lib.hid (U3.out.below hb)
        have V4 := Lib.hid (V3'.out.below hb)
        have R4 := Lib.hid h4
        obtain ⟨ro4, rc4, rfl⟩ := h4.shape
        clear hb h4 f0 f1 f2 fl A2 R3 U3 V3'
        rcases OR2.out with E2 | E2
        · rw [if_pos E2] at R4
          rw [if_pos E2, E2]
          obtain ⟨T1, T2⟩ := TW.out E2
          have G1 := Lib.hid T1
          have G2 := Lib.hid T2
          have BO2 := Lib.hid (fun e => BO.out e E2)
          generalize admL m Q.name V = n at *
          have RO := Lib.hid (adm_ok RR.out T1)
          have A4 := Lib.hid (fun X ov (hO : IRow X (admL l Q.name V) ov) => ACC.out X _ ov P.name U hO RO.out NP.out)
          unfold AdT at A4
          simp only [T1, ↓reduceIte] at A3
          simp only [T2, ↓reduceIte, ← CM.out] at A4
          generalize admL l Q.name V = o at *
          have NL := Lib.hid (show n.length ≤ 120 by have := ML.out; have := ML2.out; omega)
          have XE : ((0 : Nat) : Int) = 0 := rfl
          simp only [XE] at A3 A4 ⊢
          obtain ⟨f0, f1, f2, fl⟩ := V4.out.cells
          clear T1 T2 E2 OR2 TW BO XE
          go_wp2_with (go_at_call 15; (with_reducible refine (NU.out _ _).mono ?_); rintro e w'' ⟨rfl, rfl⟩)
          with_reducible refine (A3.out _ B4.out).mono ?_
          rintro e w5 ⟨r5, rfl, hb, h5⟩
          have B5 := Lib.hid (below_tr B4.out hb)
          have U5 := Lib.hid (U4.out.below hb)
          have V5 := Lib.hid (V4.out.below hb)
          have R5 := Lib.hid (R4.out.below hb)
          have O5 := Lib.hid h5
          obtain ⟨ro5, rc5, rfl⟩ := h5.shape
          clear hb h5 f0 f1 f2 fl A3 R4 U4 V4
          obtain ⟨e0, e1, e2, el⟩ := U5.out.cells
          go_wp2_with (go_at_call 15; (with_reducible refine (NU.out _ _).mono ?_); rintro e w'' ⟨rfl, rfl⟩)
          with_reducible refine (A4.out _ _ O5.out).mono ?_
          rintro e w6 ⟨r6, rfl, hb, h6⟩
          have B6 := Lib.hid (below_tr B5.out hb)
          have U6 := Lib.hid (U5.out.below hb)
          have V6 := Lib.hid (V5.out.below hb)
          have R6 := Lib.hid (R5.out.below hb)
          have S6 := Lib.hid h6
          obtain ⟨ro6, rc6, rfl⟩ := h6.shape
          clear hb h6 e0 e1 e2 el A4 R5 U5 V5 O5
          go_wp2_with (go_at_call 15; (with_reducible refine (NU.out _ _).mono ?_); rintro e w'' ⟨rfl, rfl⟩)
          with_reducible refine (rsame _ n n _ _ R6.out S6.out NL.out NL.out true (iff_of_true rfl rfl)).mono ?_
          rintro e w7 ⟨rfl, hb⟩
          have B7 := Lib.hid (below_tr B6.out hb)
          have U7 := Lib.hid (U6.out.below hb)
          have V7 := Lib.hid (V6.out.below hb)
          have R7 := Lib.hid (R6.out.below hb)
          clear hb R6 U6 V6 S6
          by_cases epq : Q.name = P.name
          · have BE := Lib.hid (BO2.out epq)
            have CE := Lib.hid (CB.out epq)
            rw [epq]
            simp only [BE.out, CE.out, ↓reduceIte] at A5
            have XE : ((0 : Nat) : Int) = 0 := rfl
            simp only [XE] at A5
            obtain ⟨e0, e1, e2, el⟩ := U7.out.cells
            obtain ⟨f0, f1, f2, fl⟩ := V7.out.cells
            clear epq BO2 CB XE
            go_wp2_with fail
            with_reducible refine (AD.out _).mono ?_
            rintro e w8 ⟨rfl, hb⟩
            have B8 := Lib.hid (below_tr B7.out hb)
            have R8 := Lib.hid (R7.out.below hb)
            clear hb e0 e1 e2 el f0 f1 f2 fl
            go_wp2_with fail
            with_reducible refine (A5.out _ B8.out).mono ?_
            rintro e w9 ⟨r9, rfl, hb, h9⟩
            have B9 := Lib.hid (below_tr B8.out hb)
            have R9 := Lib.hid (R8.out.below hb)
            have T9 := Lib.hid h9
            obtain ⟨ro9, rc9, rfl⟩ := h9.shape
            clear hb h9
            go_wp2_with (go_at_call 15; (with_reducible refine (NU.out _ _).mono ?_); rintro e w'' ⟨rfl, rfl⟩)
            with_reducible refine (rsame _ n n _ _ T9.out R9.out NL.out NL.out true (iff_of_true rfl rfl)).mono ?_
            rintro e w10 ⟨rfl, hb⟩
            have B10 := Lib.hid (below_tr B1.out (below_tr B9.out hb))
            clear hb
            go_wp2_with fail
            with_reducible refine (AW.out _).mono ?_
            rintro e w2 ⟨rfl, hb⟩
            have B2 := Lib.hid (below_tr B10.out hb)
            clear hb
            go_wp2_with fail
            go_ret
            exact ⟨rfl, B2.out⟩
          · have epn := tstr_ne (fun e => epq (Eq.symm e) : P.name ≠ Q.name)
            clear epq
            have B10 := Lib.hid (below_tr B1.out B7.out)
            go_wp2_with fail
            with_reducible refine (AW.out _).mono ?_
            rintro e w2 ⟨rfl, hb⟩
            have B2 := Lib.hid (below_tr B10.out hb)
            clear hb
            go_wp2_with fail
            go_ret
            exact ⟨rfl, B2.out⟩
        · have B5 := Lib.hid (below_tr B1.out B4.out)
          rw [E2]
          have XE : ((12 : Nat) : Int) = 12 := rfl
          simp only [XE]
          clear XE
          go_wp2_with (go_at_call 15; (with_reducible refine (NU.out _ _).mono ?_); rintro e w'' ⟨rfl, rfl⟩)
          with_reducible refine (AW.out _).mono ?_
          rintro e w2 ⟨rfl, hb⟩
          have B2 := Lib.hid (below_tr B5.out hb)
          clear hb
          go_wp2_with fail
          go_ret
          exact ⟨rfl, B2.out⟩
      · have B5 := Lib.hid (below_tr B1.out B3.out)
        generalize admE l P.name U = E at *
        have en : ((E : Int) == 0) = false := beq_false_of_ne (by omega)
        have en2 : ((E : Int) != 0) = true := by simpa using E1
        have en3 : (E : Int) ≠ 0 := by omega
        clear E1
        go_wp2_with (go_at_call 15; (with_reducible refine (NU.out _ _).mono ?_); rintro e w'' ⟨rfl, rfl⟩)
        with_reducible refine (AW.out _).mono ?_
        rintro e w2 ⟨rfl, hb⟩
        have B2 := Lib.hid (below_tr B5.out hb)
        clear hb
        go_wp2_with fail
        go_ret
        exact ⟨rfl, B2.out⟩
end
end Go.Proofs.Ytekaefeogbmmmaa
