/- Live trees: the document's Right, walked. -/
import Derived.Test.YtmpakgabehplbaaTrC
import Derived.Test.YtmpakgabehplbaaVecN
namespace Go.Proofs.Ytmpakgabehplbaa
open Go.RowKit
set_option linter.unusedVariables false
set_option linter.unusedSimpArgs false
theorem right_no1 {l : List I12} {k : Nat} {x : I12} (hx : l[k]? = some x) (h : i1OK l k x = false) : ¬ rightP l := fun ⟨_, h1, _⟩ => by
  have := h1 k x (List.getElem?_eq_some_iff.1 hx).1 hx
  rw [h] at this; cases this
theorem right_no2 {l : List I12} {k : Nat} {x : I12} (hx : l[k]? = some x) (h : i2OK l x = false) : ¬ rightP l := fun ⟨_, _, h1⟩ => by
  have h2 : i2OK l x = true := h1 k x (List.getElem?_eq_some_iff.1 hx).1 hx
  rw [h] at h2; cases h2
theorem i1_may {l : List I12} {i : Nat} {x : I12} (h : i1OK l i x = true) : mayV x.own = true ∧ mayV x.sub = true := by
  unfold i1OK at h
  simp only [Bool.and_eq_true] at h
  exact ⟨h.2.2.2.1, h.2.2.2.2.2.2.2.2⟩
section
variable (w : World)
set_option maxHeartbeats 100000000 in
set_option maxRecDepth 100000 in
theorem rright (l : List I12) (lv : Value) (h : IRow w l lv) (hs : ∀ x ∈ l, x.name.size ≤ 1000000) (bb : Bool) (hb1 : bb = true ↔ rightP l) :
    Calls Try.prog 11 #[lv] w (Made (.bool bb) w) := by
  have H0 := Lib.hid h
  have HS := Lib.hid hs
  have HBB := Lib.hid hb1
  obtain ⟨ao, cap, rfl, hcap, hmax, hat⟩ := h
  have HAT := Lib.hid hat
  unfold maxLen at hmax
  have hl63 : l.length ≤ 9223372036854775807 := by omega
  clear hat hs hcap hb1
  by_cases hbig : 120 < l.length
  · have R := Lib.hid (show bb = false from Bool.eq_false_iff.2 (fun e => by have := (HBB.out.1 e).1; omega))
    clear hmax
    go_enter Try.func11, Try.ntmps11
    go_wp2_with fail
    go_ret
    exact ⟨by rw [R.out]; rfl, Below.refl _ _⟩
  have hl : l.length ≤ 120 := by omega
  have RF := Lib.hid (fun W (hW : Below w.heap.size w W) s => rfind W l (.slice ao l.length cap) (H0.out.below hW) s)
  have RU := Lib.hid (fun W (hW : Below w.heap.size w W) s => rup W l (.slice ao l.length cap) (H0.out.below hW) (by omega) s)
  clear hmax hl63 hbig
  go_enter Try.func11, Try.ntmps11
  go_wp2_with fail
  go_loopg [3] l.length (fun m iv wr => ∃ k : Nat, iv = .int .i64 k ∧ l.length - k ≤ m ∧ k ≤ l.length ∧ Below w.heap.size w wr ∧ Hid (allI l (i1OK l) k))
  case atStart => exact ⟨0, rfl, Nat.le_refl _, Nat.zero_le _, Below.refl _ _, Lib.hid (fun j y hj => by omega)⟩
  case round =>
    obtain ⟨k, rfl, hm, hk, hb, OK⟩ := hrel
    have HM := Lib.hid hm
    have BR := Lib.hid hb
    clear hm hb
    by_cases hlt : k < l.length
    · obtain ⟨u, hu⟩ : ∃ u, l[k]? = some u := ⟨_, List.getElem?_eq_getElem hlt⟩
      have HU := Lib.hid hu
      obtain ⟨g, o, rfl, hcu⟩ := HAT.out k u hu
      have AT := Lib.hid (hcu.below BR.out)
      obtain ⟨k0, k1, k2, k3, k4, k5, k6, k7, k8, k9, k10, k11⟩ := AT.out
      have KN := Lib.hid (HS.out u (List.mem_of_getElem? hu))
      have IB := Lib.hid (IBlk.new wr u)
      have BX := Lib.hid (below_al BR.out (.cells #[.string u.name, .string u.parent, .int .i64 u.lim.c, .int .i64 u.lim.m, .int .i64 u.lim.p, .int .i64 u.own.c, .int .i64 u.own.m, .int .i64 u.own.p, .int .i64 u.sub.c, .int .i64 u.sub.m, .int .i64 u.sub.p, .int .i64 u.ver] 52))
      have MN := Lib.hid (fun W => rmayname W u.name (by have := KN.out; omega))
      have ML := Lib.hid (fun W => rmay_any W u.lim)
      have MO := Lib.hid (fun W => rmay_any W u.own)
      have MS := Lib.hid (fun W => rmay_any W u.sub)
      have LE := Lib.hid (fun W => rle_any W u.sub u.lim)
      have I1 := Lib.hid (show i1OK l k u = (nameB u.name && (riseB l k u && (mayV u.lim && (mayV u.own && (parB l u && (decide (1 ≤ u.ver) && (decide (u.ver ≤ 9007199254740992) && (leV u.sub u.lim && mayV u.sub)))))))) from rfl)
      have NO := Lib.hid (show i1OK l k u = false → bb = false from fun h => Bool.eq_false_iff.2 (fun e => right_no1 HU.out h (HBB.out.1 e)))
      have YES := Lib.hid (show i1OK l k u = true → allI l (i1OK l) (k + 1) from fun h => OK.out.next HU.out h)
      clear hu hcu OK
      have RS := Lib.hid (show k = 0 ∧ riseB l k u = true ∨ ∃ y, 0 < k ∧ wr.cell? ⟨g, o + (k - 1) * 12, none⟩ = some (.string y) ∧ riseB l k u = Op.bytesLess y.toList u.name.toList from by
        cases k with
        | zero => exact .inl ⟨rfl, rfl⟩
        | succ j =>
          right
          have hj : j < l.length := by omega
          have hy := List.getElem?_eq_getElem hj
          obtain ⟨g', o', e', hcy⟩ := HAT.out j _ hy
          simp only [Option.some.injEq, Addr.mk.injEq, and_true] at e'
          obtain ⟨rfl, rfl⟩ := e'
          refine ⟨l[j].name, by omega, (hcy.below BR.out).c0, ?_⟩
          unfold riseB
          simp only [hy]
          rfl)
      obtain ⟨d0, e0⟩ : ∃ d, d = !nameB u.name := ⟨_, rfl⟩
      have E0 := Lib.hid e0
      clear e0
      obtain ⟨d1, e1⟩ : ∃ d, d = (d0 || !riseB l k u) := ⟨_, rfl⟩
      have E1 := Lib.hid e1
      clear e1
      obtain ⟨d2, e2⟩ : ∃ d, d = (d1 || !mayV u.lim) := ⟨_, rfl⟩
      have E2 := Lib.hid e2
      clear e2
      obtain ⟨d3, e3⟩ : ∃ d, d = (d2 || !mayV u.own) := ⟨_, rfl⟩
      have E3 := Lib.hid e3
      clear e3
      obtain ⟨d4, e4⟩ : ∃ d, d = (d3 || !parB l u) := ⟨_, rfl⟩
      have E4 := Lib.hid e4
      clear e4
      obtain ⟨d5, e5⟩ : ∃ d, d = (d4 || decide (u.ver < 1)) := ⟨_, rfl⟩
      have E5 := Lib.hid e5
      clear e5
      obtain ⟨d6, e6⟩ : ∃ d, d = (d5 || decide (9007199254740992 < u.ver)) := ⟨_, rfl⟩
      have E6 := Lib.hid e6
      clear e6
      obtain ⟨d7, e7⟩ : ∃ d, d = (d6 || !leV u.sub u.lim) := ⟨_, rfl⟩
      have E7 := Lib.hid e7
      clear e7
      obtain ⟨d8, e8⟩ : ∃ d, d = (d7 || !mayV u.sub) := ⟨_, rfl⟩
      have E8 := Lib.hid e8
      clear e8
      have DD := Lib.hid (show i1OK l k u = !d8 from by
        rw [I1.out, E8.out, E7.out, E6.out, E5.out, E4.out, E3.out, E2.out, E1.out, E0.out]
        rw [show decide (u.ver < 1) = !decide (1 ≤ u.ver) by rw [← decide_not]; exact decide_eq_decide.2 (by omega), show decide (9007199254740992 < u.ver) = !decide (u.ver ≤ 9007199254740992) by rw [← decide_not]; exact decide_eq_decide.2 (by omega)]
        simp only [Bool.not_or, Bool.not_not, Bool.and_assoc])
      clear I1
      go_wp2_with fail
      refine wp_region_mono (by kernel_rfl) (by kernel_rfl) ?_
      simp only [List.map_cons, List.map_nil, List.append_eq, List.cons_append, List.nil_append]
      refine wpM_cut 5 ([false, false, false, false, false, false, false, false, false, false, false, false, false, false, false, false, false, false, false, false, false, true, true, true, true]) 25 (.bool d0) ?_ ?_
      · as_aux_lemma =>
          have e0 := E0.out
          clear E0
          simp only [maskA, setD, List.set_cons_zero, List.set_cons_succ, List.take_succ_cons, List.take_zero]
          subst e0
          repeat (first
            | (apply wpTo_is
               · (intro us W hW hg K hK
                  clear hg
                  obtain ⟨c0, c1, c2, c3, c4, c5, c6, c7, c8, c9, c10, c11⟩ := (IB.out.below hW).cells
                  simp only [Nat.zero_add] at c0 c1 c2 c3 c4 c5 c6 c7 c8 c9 c10 c11
                  simp only [fillA]
                  go_simp
                  first
                  | exact hK _ (Below.refl _ _)
                  | ((with_reducible refine (MN.out _).mono ?_); rintro e w' ⟨rfl, rfl⟩; exact hK _ (Below.refl _ _)))
               simp only [setD, List.set_cons_zero, List.set_cons_succ]))
          repeat (first | exact Weak.nil | refine Weak.same ?_ | refine Weak.any ?_)
      simp only [maskA, setD, List.set_cons_zero, List.set_cons_succ, List.drop_succ_cons, List.drop_zero]
      refine wpM_cut 15 ([false, false, false, false, false, false, false, false, false, false, false, false, false, false, false, false, false, false, false, false, false, true, true, true, true, true, true, true, true, true, true, true, true, true, true, true, true, true, true, true]) 40 (.bool d1) ?_ ?_
      · as_aux_lemma =>
          have e1 := E1.out
          clear E1
          simp only [maskA, setD, List.set_cons_zero, List.set_cons_succ, List.take_succ_cons, List.take_zero]
          cases d0 with
          | true =>
            simp only [Bool.true_or] at e1
            subst e1
            repeat (first
              | (apply wpTo_is
                 · (intro us W hW hg K hK
                    clear hg
                    obtain ⟨c0, c1, c2, c3, c4, c5, c6, c7, c8, c9, c10, c11⟩ := (IB.out.below hW).cells
                    simp only [Nat.zero_add] at c0 c1 c2 c3 c4 c5 c6 c7 c8 c9 c10 c11
                    simp only [fillA]
                    go_simp
                    first
                    | exact hK _ (Below.refl _ _))
                 simp only [setD, List.set_cons_zero, List.set_cons_succ]))
            repeat (first | exact Weak.nil | refine Weak.same ?_ | refine Weak.any ?_)
          | false =>
            simp only [Bool.false_or] at e1
            rcases RS.out with ⟨hk0, hrs⟩ | ⟨y, hk0, hy0, hrs⟩
            · subst hk0
              have kz := hlt
              simp only [Nat.zero_mul, Nat.add_zero] at k0 k1 k2 k3 k4 k5 k6 k7 k8 k9 k10 k11
              rw [hrs] at e1
              simp only [Bool.not_true] at e1
              subst e1
              clear hrs RS
              repeat (first
                | (apply wpTo_is
                   · (intro us W hW hg K hK
                      clear hg
                      obtain ⟨c0, c1, c2, c3, c4, c5, c6, c7, c8, c9, c10, c11⟩ := (IB.out.below hW).cells
                      simp only [Nat.zero_add] at c0 c1 c2 c3 c4 c5 c6 c7 c8 c9 c10 c11
                      simp only [fillA]
                      go_simp
                      first
                      | exact hK _ (Below.refl _ _))
                   simp only [setD, List.set_cons_zero, List.set_cons_succ]))
              repeat (first | exact Weak.nil | refine Weak.same ?_ | refine Weak.any ?_)
            · obtain ⟨q, hq⟩ : ∃ q, q = k - 1 := ⟨_, rfl⟩
              rw [← hq] at hy0
              have hy1 := hold (below_al (Below.refl wr.heap.size wr) (.cells #[.string u.name, .string u.parent, .int .i64 u.lim.c, .int .i64 u.lim.m, .int .i64 u.lim.p, .int .i64 u.own.c, .int .i64 u.own.m, .int .i64 u.own.p, .int .i64 u.sub.c, .int .i64 u.sub.m, .int .i64 u.sub.p, .int .i64 u.ver] 52)) hy0
              have kp : (0 : Int) < (k : Int) := by omega
              have qe : (k : Int) - 1 = (q : Int) := by omega
              have q1 : (q : Int) < (l.length : Int) := by omega
              have q0 : (0 : Int) ≤ (q : Int) := by omega
              have wq : IntKind.i64.wrap (q : Int) = (q : Int) := by rw [IntKind.wrap_i64]; omega
              rw [hrs] at e1
              clear hq hrs RS
              subst e1
              repeat (first
                | (apply wpTo_is
                   · (intro us W hW hg K hK
                      clear hg
                      obtain ⟨c0, c1, c2, c3, c4, c5, c6, c7, c8, c9, c10, c11⟩ := (IB.out.below hW).cells
                      simp only [Nat.zero_add] at c0 c1 c2 c3 c4 c5 c6 c7 c8 c9 c10 c11
                      have d0 := hold hW hy1
                      simp only [fillA]
                      go_simp
                      first
                      | exact hK _ (Below.refl _ _))
                   simp only [setD, List.set_cons_zero, List.set_cons_succ]))
              repeat (first | exact Weak.nil | refine Weak.same ?_ | refine Weak.any ?_)
      simp only [maskA, setD, List.set_cons_zero, List.set_cons_succ, List.drop_succ_cons, List.drop_zero]
      refine wpM_cut 6 ([false, false, false, false, false, false, false, false, false, false, false, false, false, false, false, false, false, false, false, false, false, true, true, true, true, true, true, true, true, true, true, true, true, true, true, true, true, true, true, true, true, true, true, true, true, true]) 46 (.bool d2) ?_ ?_
      · as_aux_lemma =>
          have e2 := E2.out
          clear E2
          simp only [maskA, setD, List.set_cons_zero, List.set_cons_succ, List.take_succ_cons, List.take_zero]
          cases d1 with
          | true =>
            simp only [Bool.true_or] at e2
            subst e2
            repeat (first
              | (apply wpTo_is
                 · (intro us W hW hg K hK
                    clear hg
                    obtain ⟨c0, c1, c2, c3, c4, c5, c6, c7, c8, c9, c10, c11⟩ := (IB.out.below hW).cells
                    simp only [Nat.zero_add] at c0 c1 c2 c3 c4 c5 c6 c7 c8 c9 c10 c11
                    simp only [fillA]
                    go_simp
                    first
                    | exact hK _ (Below.refl _ _))
                 simp only [setD, List.set_cons_zero, List.set_cons_succ]))
            repeat (first | exact Weak.nil | refine Weak.same ?_ | refine Weak.any ?_)
          | false =>
            simp only [Bool.false_or] at e2
            subst e2
            repeat (first
              | (apply wpTo_is
                 · (intro us W hW hg K hK
                    clear hg
                    obtain ⟨c0, c1, c2, c3, c4, c5, c6, c7, c8, c9, c10, c11⟩ := (IB.out.below hW).cells
                    simp only [Nat.zero_add] at c0 c1 c2 c3 c4 c5 c6 c7 c8 c9 c10 c11
                    simp only [fillA]
                    go_simp
                    first
                    | exact hK _ (Below.refl _ _)
                    | ((with_reducible refine (ML.out _).mono ?_); rintro e w' ⟨rfl, hb⟩; exact hK _ hb))
                 simp only [setD, List.set_cons_zero, List.set_cons_succ]))
            repeat (first | exact Weak.nil | refine Weak.same ?_ | refine Weak.any ?_)
      simp only [maskA, setD, List.set_cons_zero, List.set_cons_succ, List.drop_succ_cons, List.drop_zero]
      refine wpM_cut 6 ([false, false, false, false, false, false, false, false, false, false, false, false, false, false, false, false, false, false, false, false, false, true, true, true, true, true, true, true, true, true, true, true, true, true, true, true, true, true, true, true, true, true, true, true, true, true, true, true, true, true, true, true]) 52 (.bool d3) ?_ ?_
      · as_aux_lemma =>
          have e3 := E3.out
          clear E3
          simp only [maskA, setD, List.set_cons_zero, List.set_cons_succ, List.take_succ_cons, List.take_zero]
          cases d2 with
          | true =>
            simp only [Bool.true_or] at e3
            subst e3
            repeat (first
              | (apply wpTo_is
                 · (intro us W hW hg K hK
                    clear hg
                    obtain ⟨c0, c1, c2, c3, c4, c5, c6, c7, c8, c9, c10, c11⟩ := (IB.out.below hW).cells
                    simp only [Nat.zero_add] at c0 c1 c2 c3 c4 c5 c6 c7 c8 c9 c10 c11
                    simp only [fillA]
                    go_simp
                    first
                    | exact hK _ (Below.refl _ _))
                 simp only [setD, List.set_cons_zero, List.set_cons_succ]))
            repeat (first | exact Weak.nil | refine Weak.same ?_ | refine Weak.any ?_)
          | false =>
            simp only [Bool.false_or] at e3
            subst e3
            repeat (first
              | (apply wpTo_is
                 · (intro us W hW hg K hK
                    clear hg
                    obtain ⟨c0, c1, c2, c3, c4, c5, c6, c7, c8, c9, c10, c11⟩ := (IB.out.below hW).cells
                    simp only [Nat.zero_add] at c0 c1 c2 c3 c4 c5 c6 c7 c8 c9 c10 c11
                    simp only [fillA]
                    go_simp
                    first
                    | exact hK _ (Below.refl _ _)
                    | ((with_reducible refine (MO.out _).mono ?_); rintro e w' ⟨rfl, hb⟩; exact hK _ hb))
                 simp only [setD, List.set_cons_zero, List.set_cons_succ]))
            repeat (first | exact Weak.nil | refine Weak.same ?_ | refine Weak.any ?_)
      simp only [maskA, setD, List.set_cons_zero, List.set_cons_succ, List.drop_succ_cons, List.drop_zero]
      refine wpM_cut 12 ([false, false, false, false, false, false, false, false, false, false, false, false, false, false, false, false, false, false, false, false, false, true, true, true, true, true, true, true, true, true, true, true, true, true, true, true, true, true, true, true, true, true, true, true, true, true, true, true, true, true, true, true, true, true, true, true, true, true, true, true, true, true, true, true]) 64 (.bool d4) ?_ ?_
      · as_aux_lemma =>
          have e4 := E4.out
          clear E4
          simp only [maskA, setD, List.set_cons_zero, List.set_cons_succ, List.take_succ_cons, List.take_zero]
          cases d3 with
          | true =>
            simp only [Bool.true_or] at e4
            subst e4
            repeat (first
              | (apply wpTo_is
                 · (intro us W hW hg K hK
                    clear hg
                    obtain ⟨c0, c1, c2, c3, c4, c5, c6, c7, c8, c9, c10, c11⟩ := (IB.out.below hW).cells
                    simp only [Nat.zero_add] at c0 c1 c2 c3 c4 c5 c6 c7 c8 c9 c10 c11
                    simp only [fillA]
                    go_simp
                    first
                    | exact hK _ (Below.refl _ _))
                 simp only [setD, List.set_cons_zero, List.set_cons_succ]))
            repeat (first | exact Weak.nil | refine Weak.same ?_ | refine Weak.any ?_)
          | false =>
            simp only [Bool.false_or] at e4
            by_cases hp : u.parent = ⟨#[]⟩
            · have e := tstr_empty u.parent
              rw [decide_eq_true hp] at e
              have e' : u.parent.toList = [] := by simpa using e
              rw [show parB l u = true by unfold parB; rw [decide_eq_true hp]; rfl] at e4
              simp only [Bool.not_true] at e4
              subst e4
              clear hp
              repeat (first
                | (apply wpTo_is
                   · (intro us W hW hg K hK
                      clear hg
                      obtain ⟨c0, c1, c2, c3, c4, c5, c6, c7, c8, c9, c10, c11⟩ := (IB.out.below hW).cells
                      simp only [Nat.zero_add] at c0 c1 c2 c3 c4 c5 c6 c7 c8 c9 c10 c11
                      simp only [fillA]
                      go_simp
                      first
                      | exact hK _ (Below.refl _ _))
                   simp only [setD, List.set_cons_zero, List.set_cons_succ]))
              repeat (first | exact Weak.nil | refine Weak.same ?_ | refine Weak.any ?_)
            · have e := tstr_empty u.parent
              rw [decide_eq_false hp] at e
              have e' : ¬ u.parent.toList = [] := by simpa using e
              have WI := Lib.hid (show findI l u.parent = match iIdx l u.parent with | some k => (k : Int) | none => -1 from rfl)
              have FD := Lib.hid (fun W (hW : Below w.heap.size w W) => RF.out W hW u.parent)
              cases hw : iIdx l u.parent with
              | none =>
                have E := Lib.hid (show findI l u.parent = -1 by rw [WI.out, hw])
                rw [show parB l u = false by unfold parB; rw [decide_eq_false hp, hw]; rfl] at e4
                simp only [Bool.not_false] at e4
                subst e4
                simp only [E.out] at FD
                clear hw WI hp
                repeat (first
                  | (apply wpTo_is
                     · (intro us W hW hg K hK
                        clear hg
                        obtain ⟨c0, c1, c2, c3, c4, c5, c6, c7, c8, c9, c10, c11⟩ := (IB.out.below hW).cells
                        simp only [Nat.zero_add] at c0 c1 c2 c3 c4 c5 c6 c7 c8 c9 c10 c11
                        simp only [fillA]
                        go_simp
                        first
                        | exact hK _ (Below.refl _ _)
                        | ((with_reducible refine (FD.out _ (below_tr BX.out hW)).mono ?_); rintro e w' ⟨rfl, rfl⟩; exact hK _ (Below.refl _ _)))
                     simp only [setD, List.set_cons_zero, List.set_cons_succ]))
                repeat (first | exact Weak.nil | refine Weak.same ?_ | refine Weak.any ?_)
              | some j =>
                have E := Lib.hid (show findI l u.parent = (j : Int) by rw [WI.out, hw])
                rw [show parB l u = true by unfold parB; rw [decide_eq_false hp, hw]; rfl] at e4
                simp only [Bool.not_true] at e4
                subst e4
                simp only [E.out] at FD
                have jn : ¬ (j : Int) < 0 := by omega
                clear hw WI hp
                repeat (first
                  | (apply wpTo_is
                     · (intro us W hW hg K hK
                        clear hg
                        obtain ⟨c0, c1, c2, c3, c4, c5, c6, c7, c8, c9, c10, c11⟩ := (IB.out.below hW).cells
                        simp only [Nat.zero_add] at c0 c1 c2 c3 c4 c5 c6 c7 c8 c9 c10 c11
                        simp only [fillA]
                        go_simp
                        first
                        | exact hK _ (Below.refl _ _)
                        | ((with_reducible refine (FD.out _ (below_tr BX.out hW)).mono ?_); rintro e w' ⟨rfl, rfl⟩; exact hK _ (Below.refl _ _)))
                     simp only [setD, List.set_cons_zero, List.set_cons_succ]))
                repeat (first | exact Weak.nil | refine Weak.same ?_ | refine Weak.any ?_)
      simp only [maskA, setD, List.set_cons_zero, List.set_cons_succ, List.drop_succ_cons, List.drop_zero]
      refine wpM_cut 5 ([false, false, false, false, false, false, false, false, false, false, false, false, false, false, false, false, false, false, false, false, false, true, true, true, true, true, true, true, true, true, true, true, true, true, true, true, true, true, true, true, true, true, true, true, true, true, true, true, true, true, true, true, true, true, true, true, true, true, true, true, true, true, true, true, true, true, true, true, true]) 69 (.bool d5) ?_ ?_
      · as_aux_lemma =>
          have e5 := E5.out
          clear E5
          simp only [maskA, setD, List.set_cons_zero, List.set_cons_succ, List.take_succ_cons, List.take_zero]
          cases d4 with
          | true =>
            simp only [Bool.true_or] at e5
            subst e5
            repeat (first
              | (apply wpTo_is
                 · (intro us W hW hg K hK
                    clear hg
                    obtain ⟨c0, c1, c2, c3, c4, c5, c6, c7, c8, c9, c10, c11⟩ := (IB.out.below hW).cells
                    simp only [Nat.zero_add] at c0 c1 c2 c3 c4 c5 c6 c7 c8 c9 c10 c11
                    simp only [fillA]
                    go_simp
                    first
                    | exact hK _ (Below.refl _ _))
                 simp only [setD, List.set_cons_zero, List.set_cons_succ]))
            repeat (first | exact Weak.nil | refine Weak.same ?_ | refine Weak.any ?_)
          | false =>
            simp only [Bool.false_or] at e5
            subst e5
            repeat (first
              | (apply wpTo_is
                 · (intro us W hW hg K hK
                    clear hg
                    obtain ⟨c0, c1, c2, c3, c4, c5, c6, c7, c8, c9, c10, c11⟩ := (IB.out.below hW).cells
                    simp only [Nat.zero_add] at c0 c1 c2 c3 c4 c5 c6 c7 c8 c9 c10 c11
                    simp only [fillA]
                    go_simp
                    first
                    | exact hK _ (Below.refl _ _))
                 simp only [setD, List.set_cons_zero, List.set_cons_succ]))
            repeat (first | exact Weak.nil | refine Weak.same ?_ | refine Weak.any ?_)
      simp only [maskA, setD, List.set_cons_zero, List.set_cons_succ, List.drop_succ_cons, List.drop_zero]
      refine wpM_cut 5 ([false, false, false, false, false, false, false, false, false, false, false, false, false, false, false, false, false, false, false, false, false, true, true, true, true, true, true, true, true, true, true, true, true, true, true, true, true, true, true, true, true, true, true, true, true, true, true, true, true, true, true, true, true, true, true, true, true, true, true, true, true, true, true, true, true, true, true, true, true, true, true, true, true, true]) 74 (.bool d6) ?_ ?_
      · as_aux_lemma =>
          have e6 := E6.out
          clear E6
          simp only [maskA, setD, List.set_cons_zero, List.set_cons_succ, List.take_succ_cons, List.take_zero]
          cases d5 with
          | true =>
            simp only [Bool.true_or] at e6
            subst e6
            repeat (first
              | (apply wpTo_is
                 · (intro us W hW hg K hK
                    clear hg
                    obtain ⟨c0, c1, c2, c3, c4, c5, c6, c7, c8, c9, c10, c11⟩ := (IB.out.below hW).cells
                    simp only [Nat.zero_add] at c0 c1 c2 c3 c4 c5 c6 c7 c8 c9 c10 c11
                    simp only [fillA]
                    go_simp
                    first
                    | exact hK _ (Below.refl _ _))
                 simp only [setD, List.set_cons_zero, List.set_cons_succ]))
            repeat (first | exact Weak.nil | refine Weak.same ?_ | refine Weak.any ?_)
          | false =>
            simp only [Bool.false_or] at e6
            subst e6
            repeat (first
              | (apply wpTo_is
                 · (intro us W hW hg K hK
                    clear hg
                    obtain ⟨c0, c1, c2, c3, c4, c5, c6, c7, c8, c9, c10, c11⟩ := (IB.out.below hW).cells
                    simp only [Nat.zero_add] at c0 c1 c2 c3 c4 c5 c6 c7 c8 c9 c10 c11
                    simp only [fillA]
                    go_simp
                    first
                    | exact hK _ (Below.refl _ _))
                 simp only [setD, List.set_cons_zero, List.set_cons_succ]))
            repeat (first | exact Weak.nil | refine Weak.same ?_ | refine Weak.any ?_)
      simp only [maskA, setD, List.set_cons_zero, List.set_cons_succ, List.drop_succ_cons, List.drop_zero]
      refine wpM_cut 8 ([false, false, false, false, false, false, false, false, false, false, false, false, false, false, false, false, false, false, false, false, false, true, true, true, true, true, true, true, true, true, true, true, true, true, true, true, true, true, true, true, true, true, true, true, true, true, true, true, true, true, true, true, true, true, true, true, true, true, true, true, true, true, true, true, true, true, true, true, true, true, true, true, true, true, true, true, true, true, true, true, true, true]) 82 (.bool d7) ?_ ?_
      · as_aux_lemma =>
          have e7 := E7.out
          clear E7
          simp only [maskA, setD, List.set_cons_zero, List.set_cons_succ, List.take_succ_cons, List.take_zero]
          cases d6 with
          | true =>
            simp only [Bool.true_or] at e7
            subst e7
            repeat (first
              | (apply wpTo_is
                 · (intro us W hW hg K hK
                    clear hg
                    obtain ⟨c0, c1, c2, c3, c4, c5, c6, c7, c8, c9, c10, c11⟩ := (IB.out.below hW).cells
                    simp only [Nat.zero_add] at c0 c1 c2 c3 c4 c5 c6 c7 c8 c9 c10 c11
                    simp only [fillA]
                    go_simp
                    first
                    | exact hK _ (Below.refl _ _))
                 simp only [setD, List.set_cons_zero, List.set_cons_succ]))
            repeat (first | exact Weak.nil | refine Weak.same ?_ | refine Weak.any ?_)
          | false =>
            simp only [Bool.false_or] at e7
            subst e7
            repeat (first
              | (apply wpTo_is
                 · (intro us W hW hg K hK
                    clear hg
                    obtain ⟨c0, c1, c2, c3, c4, c5, c6, c7, c8, c9, c10, c11⟩ := (IB.out.below hW).cells
                    simp only [Nat.zero_add] at c0 c1 c2 c3 c4 c5 c6 c7 c8 c9 c10 c11
                    simp only [fillA]
                    go_simp
                    first
                    | exact hK _ (Below.refl _ _)
                    | ((with_reducible refine (LE.out _).mono ?_); rintro e w' ⟨rfl, hb⟩; exact hK _ hb))
                 simp only [setD, List.set_cons_zero, List.set_cons_succ]))
            repeat (first | exact Weak.nil | refine Weak.same ?_ | refine Weak.any ?_)
      simp only [maskA, setD, List.set_cons_zero, List.set_cons_succ, List.drop_succ_cons, List.drop_zero]
      refine wpM_cut 5 ([false, false, false, false, false, false, false, false, false, false, false, false, false, false, false, false, false, false, false, false, false, true, true, true, true, true, true, true, true, true, true, true, true, true, true, true, true, true, true, true, true, true, true, true, true, true, true, true, true, true, true, true, true, true, true, true, true, true, true, true, true, true, true, true, true, true, true, true, true, true, true, true, true, true, true, true, true, true, true, true, true, true, true, true, true, true, true]) 87 (.bool d8) ?_ ?_
      · as_aux_lemma =>
          have e8 := E8.out
          clear E8
          simp only [maskA, setD, List.set_cons_zero, List.set_cons_succ, List.take_succ_cons, List.take_zero]
          cases d7 with
          | true =>
            simp only [Bool.true_or] at e8
            subst e8
            repeat (first
              | (apply wpTo_is
                 · (intro us W hW hg K hK
                    clear hg
                    obtain ⟨c0, c1, c2, c3, c4, c5, c6, c7, c8, c9, c10, c11⟩ := (IB.out.below hW).cells
                    simp only [Nat.zero_add] at c0 c1 c2 c3 c4 c5 c6 c7 c8 c9 c10 c11
                    simp only [fillA]
                    go_simp
                    first
                    | exact hK _ (Below.refl _ _))
                 simp only [setD, List.set_cons_zero, List.set_cons_succ]))
            repeat (first | exact Weak.nil | refine Weak.same ?_ | refine Weak.any ?_)
          | false =>
            simp only [Bool.false_or] at e8
            subst e8
            repeat (first
              | (apply wpTo_is
                 · (intro us W hW hg K hK
                    clear hg
                    obtain ⟨c0, c1, c2, c3, c4, c5, c6, c7, c8, c9, c10, c11⟩ := (IB.out.below hW).cells
                    simp only [Nat.zero_add] at c0 c1 c2 c3 c4 c5 c6 c7 c8 c9 c10 c11
                    simp only [fillA]
                    go_simp
                    first
                    | exact hK _ (Below.refl _ _)
                    | ((with_reducible refine (MS.out _).mono ?_); rintro e w' ⟨rfl, hb⟩; exact hK _ hb))
                 simp only [setD, List.set_cons_zero, List.set_cons_succ]))
            repeat (first | exact Weak.nil | refine Weak.same ?_ | refine Weak.any ?_)
      simp only [maskA, setD, List.set_cons_zero, List.set_cons_succ, List.drop_succ_cons, List.drop_zero]
      intro us W hW hg
      simp only [fillA]
      clear hg
      have BW := Lib.hid (below_tr BX.out hW)
      cases d8 with
      | true =>
        have R := Lib.hid (NO.out (by rw [DD.out]; rfl))
        go_wp2_with fail
        go_ret
        exact ⟨by rw [R.out]; rfl, BW.out⟩
      | false =>
        have NX := Lib.hid (YES.out (by rw [DD.out]; rfl))
        go_wp2_with fail
        go_roundg (l.length - (k + 1))
        case rel => exact ⟨k + 1, by go_num, Nat.le_refl _, hlt, BW.out, NX⟩
        case measure => have := HM.out; omega
    · obtain rfl : k = l.length := by omega
      have OK1 := OK
      have BR1 := BR
      have AMO := Lib.hid (show ∀ y ∈ l, mayV y.own = true ∧ mayV y.sub = true from fun y hy => by
        obtain ⟨j, hj, rfl⟩ := List.mem_iff_getElem.1 hy
        exact i1_may (OK1.out j _ hj (List.getElem?_eq_getElem hj)))
      clear OK BR HM hlt hk
      go_wp2_with fail
      go_loopg [5] l.length (fun m iv wr => ∃ k : Nat, iv = .int .i64 k ∧ l.length - k ≤ m ∧ k ≤ l.length ∧ Below w.heap.size w wr ∧ Hid (allI l (fun _ x => i2OK l x) k))
      case atStart => exact ⟨0, rfl, Nat.le_refl _, Nat.zero_le _, BR1.out, Lib.hid (fun j y hj => by omega)⟩
      case round =>
        obtain ⟨k, rfl, hm, hk, hb, OK⟩ := hrel
        have HM := Lib.hid hm
        have BR := Lib.hid hb
        clear hm hb
        by_cases hlt : k < l.length
        · obtain ⟨u, hu⟩ : ∃ u, l[k]? = some u := ⟨_, List.getElem?_eq_getElem hlt⟩
          have HU := Lib.hid hu
          obtain ⟨g, o, rfl, hcu⟩ := HAT.out k u hu
          have AT := Lib.hid (hcu.below BR.out)
          obtain ⟨k0, k1, k2, k3, k4, k5, k6, k7, k8, k9, k10, k11⟩ := AT.out
          have AMU := Lib.hid (AMO.out u (List.mem_of_getElem? hu)).1
          have SMO := Lib.hid (fun y hy => (AMO.out y hy).2)
          have NO := Lib.hid (show i2OK l u = false → bb = false from fun h => Bool.eq_false_iff.2 (fun e => right_no2 HU.out h (HBB.out.1 e)))
          have YES := Lib.hid (show i2OK l u = true → allI l (fun _ x => i2OK l x) (k + 1) from fun h => OK.out.next HU.out h)
          have x0 : (0 : Int) ≤ (k : Int) := by omega
          have x1 : (k : Int) < (l.length : Int) := by omega
          clear hu hcu OK
          go_wp2_with fail
          have T0 := Lib.hid (CBlk.new wr u.own)
          have KA := Lib.hid (AT.out.below (below_al (Below.refl wr.heap.size wr) (.cells #[.int .i64 u.own.c, .int .i64 u.own.m, .int .i64 u.own.p] 24)))
          have BA := Lib.hid (below_al (Below.refl wr.heap.size wr) (.cells #[.int .i64 u.own.c, .int .i64 u.own.m, .int .i64 u.own.p] 24))
          clear k0 k1 k2 k3 k4 k5 k6 k7 k8 k9 k10 k11
          go_loopg [7] l.length (fun m jv ws => ∃ j : Nat, jv = .int .i64 j ∧ l.length - j ≤ m ∧ j ≤ l.length ∧ Below wr.heap.size wr ws ∧ CBlk ws wr.heap.size (subTo l u j))
          case atStart => exact ⟨0, rfl, Nat.le_refl _, Nat.zero_le _, BA.out, T0.out⟩
          case round =>
            obtain ⟨j, rfl, hm2, hj, hb2, hc⟩ := hrel
            have HM2 := Lib.hid hm2
            have BS := Lib.hid hb2
            have CS := Lib.hid hc
            clear hm2 hb2 hc
            obtain ⟨u0, u1, u2, u3, u4, u5, u6, u7, u8, u9, u10, u11⟩ := AT.out.below BS.out
            obtain ⟨t0, t1, t2, tl⟩ := CS.out.cells
            by_cases hjl : j < l.length
            · obtain ⟨y, hy⟩ : ∃ y, l[j]? = some y := ⟨_, List.getElem?_eq_getElem hjl⟩
              obtain ⟨g', o', e', hat⟩ := HAT.out j y hy
              simp only [Option.some.injEq, Addr.mk.injEq, and_true] at e'
              obtain ⟨rfl, rfl⟩ := e'
              obtain ⟨k0, k1, k2, k3, k4, k5, k6, k7, k8, k9, k10, k11⟩ := (hat.below BR.out).below BS.out
              have z0 : (0 : Int) ≤ (j : Int) := by omega
              have z1 : (j : Int) < (l.length : Int) := by omega
              have ST := Lib.hid (subTo_step (x := u) hy)
              have UP := Lib.hid (subTo_up AMU.out SMO.out j (by omega))
              have YB := Lib.hid (may_bounds (SMO.out y (List.mem_of_getElem? hy)))
              clear hy hat
              by_cases hp : y.parent = u.name
              · have e := tstr_is hp
                have EN := Lib.hid (show subTo l u (j + 1) = addV (subTo l u j) y.sub by rw [ST.out, if_pos hp])
                have AD0 := Lib.hid (fun W => radd2_any W (subTo l u j) y.sub (by
                  have := UP.out; have := YB.out
                  unfold V3.I addV; simp only; omega))
                obtain ⟨s1, hs1⟩ : ∃ s1, s1 = addV (subTo l u j) y.sub := ⟨_, rfl⟩
                have AD : Hid (∀ W, Calls Try.prog 32 #[.agg #[.int .i64 (subTo l u j).c, .int .i64 (subTo l u j).m, .int .i64 (subTo l u j).p], .agg #[.int .i64 y.sub.c, .int .i64 y.sub.m, .int .i64 y.sub.p]] W (Made (.agg #[.int .i64 s1.c, .int .i64 s1.m, .int .i64 s1.p]) W)) := by rw [hs1]; exact AD0.out
                have EN2 := Lib.hid (EN.out.trans hs1.symm)
                clear AD0 hs1 EN
                generalize subTo l u j = s0 at *
                clear hp UP YB ST
                clear k0 k2 k3 k4 k5 k6 k7 k11 u1 u2 u3 u4 u5 u6 u7 u8 u9 u10 u11
                go_wp2_with fail
                refine wp_region_mono (by kernel_rfl) (by kernel_rfl) ?_
                simp only [List.map_cons, List.map_nil]
                repeat (first
                  | (apply wpM_is
                     · (intro us W hW hg K hK
                        clear hg
                        have d0 := hold hW u0
                        have d1 := hold hW k1
                        have d2 := hold hW k8
                        have d3 := hold hW k9
                        have d4 := hold hW k10
                        simp only [fillA]
                        go_simp
                        first
                        | exact hK _ (Below.refl _ _))
                     simp only [setD, List.set_cons_zero, List.set_cons_succ]))
                intro us W hW hg
                simp only [fillA]
                clear hg
                have BS2 := Lib.hid (below_tr BS.out hW)
                have CS2 := Lib.hid (CS.out.below hW)
                replace k8 := hold hW k8
                replace k9 := hold hW k9
                replace k10 := hold hW k10
                obtain ⟨t0, t1, t2, tl⟩ := CS2.out.cells
                clear hW u0 k1
                go_wp2_with fail
                refine wp_region_mono_tail 7 (by kernel_rfl) (by kernel_rfl) (Nat.le_of_ble_eq_true (by kernel_rfl)) (by kernel_rfl) ?_
                simp only [List.map_cons, List.map_nil]
                simp only [List.take_succ_cons, List.take_zero, List.drop_succ_cons, List.drop_zero]
                repeat (first
                  | (apply wpM_is
                     · (intro us W hW hg K hK
                        clear hg
                        have d0 := hold hW k8
                        have d1 := hold hW k9
                        have d2 := hold hW k10
                        have d3 := hold hW t0
                        have d4 := hold hW t1
                        have d5 := hold hW t2
                        simp only [fillA]
                        go_simp
                        first
                        | exact hK _ (Below.refl _ _)
                        | ((with_reducible refine (AD.out _).mono ?_); rintro e w' ⟨rfl, hb⟩; exact hK _ hb))
                     simp only [setD, List.set_cons_zero, List.set_cons_succ]))
                intro us W hW hg
                simp only [fillA]
                clear hg
                have BW := Lib.hid (below_tr BS2.out hW)
                have TW := Lib.hid (CS2.out.below hW)
                obtain ⟨e0, e1, e2, el⟩ := TW.out.cells
                have f0 := TW.out.free 0
                have f1 := TW.out.free 1
                have f2 := TW.out.free 2
                clear hW t0 t1 t2 tl k8 k9 k10
                go_wp2_with fail
                go_roundg (l.length - (j + 1))
                case rel => exact ⟨j + 1, by go_num, Nat.le_refl _, hjl, below_set3 BW.out (Nat.le_refl _) _ _ _, by rw [EN2.out]; exact TW.out.set s1⟩
                case measure => have := HM2.out; omega
              · have e := tstr_ne hp
                have EN := Lib.hid (show subTo l u (j + 1) = subTo l u j by rw [ST.out, if_neg hp])
                clear hp UP YB ST
                clear k0 k2 k3 k4 k5 k6 k7 k8 k9 k10 k11 u1 u2 u3 u4 u5 u6 u7 u8 u9 u10 u11
                go_wp2_with fail
                refine wp_region_mono (by kernel_rfl) (by kernel_rfl) ?_
                simp only [List.map_cons, List.map_nil]
                repeat (first
                  | (apply wpM_is
                     · (intro us W hW hg K hK
                        clear hg
                        have d0 := hold hW u0
                        have d1 := hold hW k1
                        simp only [fillA]
                        go_simp
                        first
                        | exact hK _ (Below.refl _ _))
                     simp only [setD, List.set_cons_zero, List.set_cons_succ]))
                intro us W hW hg
                simp only [fillA]
                clear hg
                go_wp2_with fail
                go_roundg (l.length - (j + 1))
                case rel => exact ⟨j + 1, by go_num, Nat.le_refl _, hjl, below_tr BS.out hW, by rw [EN.out]; exact CS.out.below hW⟩
                case measure => have := HM2.out; omega
            · obtain rfl : j = l.length := by omega
              have I2 := Lib.hid (show i2OK l u = (eqV (subTo l u l.length) u.sub && decide ((upI l u.name).length ≤ l.length)) from rfl)
              have RW := Lib.hid (fun W (hW : Below wr.heap.size wr W) => RU.out W (below_tr (below_tr BR.out BS.out) hW) u.name)
              clear u1 u2 u3 u4 u5 u6 u7 u11
              by_cases hq : subTo l u l.length = u.sub
              · have E1 := Lib.hid (show eqV (subTo l u l.length) u.sub = true from eqV_iff.2 hq)
                rw [hq] at t0 t1 t2
                clear hq
                go_wp2_with fail
                refine wp_region_mono (by kernel_rfl) (by kernel_rfl) ?_
                simp only [List.map_cons, List.map_nil]
                repeat (first
                  | (apply wpM_is
                     · (intro us W hW hg K hK
                        clear hg
                        have d0 := hold hW u0
                        have d1 := hold hW u8
                        have d2 := hold hW u9
                        have d3 := hold hW u10
                        have d4 := hold hW t0
                        have d5 := hold hW t1
                        have d6 := hold hW t2
                        simp only [fillA]
                        go_simp
                        first
                        | exact hK _ (Below.refl _ _))
                     simp only [setD, List.set_cons_zero, List.set_cons_succ]))
                refine wpM_any (fun v _ => ∃ ao cap, v = .slice ao (upI l u.name).length cap) (fun v W W' h hb => h) ?_ ?_
                · intro us W hW hg K hK
                  clear hg
                  simp only [fillA]
                  go_simp
                  with_reducible refine (RW.out _ hW).mono ?_
                  rintro e w' ⟨v, rfl, hb, hv⟩
                  exact hK _ _ hv.shape hb
                simp only [setD, List.set_cons_zero, List.set_cons_succ]
                apply wpM_is
                · intro us W hW hg K hK
                  obtain ⟨ao, cap', h0⟩ := hg 137 (List.elem_iff.1 (by kernel_rfl)) _ rfl
                  clear hg
                  simp only [fillA, h0] at hK ⊢
                  go_simp
                  exact hK _ (Below.refl _ _)
                simp only [setD, List.set_cons_zero, List.set_cons_succ]
                repeat (first
                  | (apply wpM_is
                     · (intro us W hW hg K hK
                        clear hg
                        have d0 := hold hW u0
                        have d1 := hold hW u8
                        have d2 := hold hW u9
                        have d3 := hold hW u10
                        have d4 := hold hW t0
                        have d5 := hold hW t1
                        have d6 := hold hW t2
                        simp only [fillA]
                        go_simp
                        first
                        | exact hK _ (Below.refl _ _))
                     simp only [setD, List.set_cons_zero, List.set_cons_succ]))
                intro us W hW hg
                simp only [fillA]
                clear hg
                have BW := Lib.hid (below_tr (below_tr BR.out BS.out) hW)
                by_cases hn : l.length < (upI l u.name).length
                · have R := Lib.hid (NO.out (by rw [I2.out, E1.out, decide_eq_false (by omega)]; rfl))
                  go_wp2_with fail
                  go_ret
                  exact ⟨by rw [R.out]; rfl, BW.out⟩
                · have NX := Lib.hid (YES.out (by rw [I2.out, E1.out, decide_eq_true (by omega)]; rfl))
                  go_wp2_with fail
                  go_roundg (l.length - (k + 1))
                  case rel => exact ⟨k + 1, by go_num, Nat.le_refl _, hlt, BW.out, NX⟩
                  case measure => have := HM.out; omega
              · have R := Lib.hid (NO.out (by
                  rw [I2.out]
                  cases he : eqV (subTo l u l.length) u.sub with
                  | false => rfl
                  | true => exact absurd (eqV_iff.1 he) hq))
                have NE : (subTo l u l.length).c ≠ u.sub.c ∨ (subTo l u l.length).m ≠ u.sub.m ∨ (subTo l u l.length).p ≠ u.sub.p := by
                  refine Classical.byContradiction fun hno => hq (eqV_iff.1 ?_)
                  unfold eqV
                  simp only [Bool.and_eq_true, decide_eq_true_eq]
                  omega
                clear hq I2
                generalize subTo l u l.length = s0 at *
                go_wp2_with fail
                rcases NE with hne | hne | hne
                all_goals
                  refine wp_region_mono (by kernel_rfl) (by kernel_rfl) ?_
                  simp only [List.map_cons, List.map_nil]
                  repeat (first
                    | (apply wpM_is
                       · (intro us W hW hg K hK
                          clear hg
                          have d0 := hold hW u0
                          have d1 := hold hW u8
                          have d2 := hold hW u9
                          have d3 := hold hW u10
                          have d4 := hold hW t0
                          have d5 := hold hW t1
                          have d6 := hold hW t2
                          simp only [fillA]
                          go_simp
                          first
                          | exact hK _ (Below.refl _ _))
                       simp only [setD, List.set_cons_zero, List.set_cons_succ]))
                  intro us W hW hg
                  simp only [fillA]
                  clear hg
                  go_wp2_with fail
                  go_ret
                  exact ⟨by rw [R.out]; rfl, below_tr (below_tr BR.out BS.out) hW⟩
        · obtain rfl : k = l.length := by omega
          have R := Lib.hid (show bb = true from HBB.out.2 ⟨hl, OK1.out, OK.out⟩)
          go_wp2_with fail
          go_ret
          exact ⟨by rw [R.out]; rfl, BR.out⟩
end
end Go.Proofs.Ytmpakgabehplbaa
