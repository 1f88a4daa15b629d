/- Rows of nodes that are the same: the document's SameItems, walked. -/
import Derived.Test.YtmpakgabehplbaaShB
import Derived.Test.YtmpakgabehplbaaVecN
namespace Go.Proofs.Ytmpakgabehplbaa
open Go.RowKit
set_option linter.unusedVariables false
set_option linter.unusedSimpArgs false
section
variable (w : World)
set_option maxHeartbeats 8000000 in
set_option maxRecDepth 20000 in
theorem rsame (a b : List I12) (av bv : Value) (ha : IRow w a av) (hb : IRow w b bv) (hla : a.length ≤ 120) (hlb : b.length ≤ 120) (q : Bool) (hq : q = true ↔ a = b) : Calls Try.prog 24 #[av, bv] w (Made (.bool q) w) := by
  have HA := Lib.hid ha
  have HB := Lib.hid hb
  obtain ⟨ao, ac, rfl, -, -, hat⟩ := ha
  obtain ⟨bo, bc, rfl, -, -, hbt⟩ := hb
  by_cases hl : a.length = b.length
  · rw [← hl]
    have HL := Lib.hid hl
    have HQ := Lib.hid hq
    clear hl hq hlb
    go_enter Try.func24, Try.ntmps24
    go_wp2_with fail
    go_loopg [5] a.length (fun m iv wr => ∃ k : Nat, iv = .int .i64 (k : Int) ∧ a.length - k ≤ m ∧ k ≤ a.length ∧ Below w.heap.size w wr ∧ a.take k = b.take k)
    case atStart => exact ⟨0, rfl, Nat.le_refl _, Nat.zero_le _, Below.refl _ _, rfl⟩
    case round =>
      obtain ⟨k, rfl, hm, hk, hbr, he⟩ := hrel
      have BR := Lib.hid hbr
      clear hbr
      have HM := Lib.hid hm
      have HE := Lib.hid he
      clear hm he
      by_cases hlt : k < a.length
      · obtain ⟨x, hx⟩ : ∃ x, a[k]? = some x := ⟨_, List.getElem?_eq_getElem hlt⟩
        obtain ⟨y, hy⟩ : ∃ y, b[k]? = some y := ⟨_, List.getElem?_eq_getElem (by rw [← HL.out]; exact hlt)⟩
        obtain ⟨ga, oa, rfl, hca'⟩ := hat k x hx
        have hca := hca'.below BR.out
        obtain ⟨gb, ob, rfl, hcb'⟩ := hbt k y hy
        have hcb := hcb'.below BR.out
        have HX := Lib.hid hx
        have HY := Lib.hid hy
        have CA := Lib.hid hca
        have CB := Lib.hid hcb
        have y0 : (0 : Int) ≤ (k : Int) := by omega
        have y1 : (k : Int) < (a.length : Int) := by omega
        clear hx hy hca hcb hat hbt hca' hcb'
        obtain ⟨k0, k1, k2, k3, k4, k5, k6, k7, k8, k9, k10, k11⟩ := CA.out
        obtain ⟨j0, j1, j2, j3, j4, j5, j6, j7, j8, j9, j10, j11⟩ := CB.out
        go_wp2_with fail
        refine wp_region_mono (by kernel_rfl) (by kernel_rfl) ?_
        simp only [List.map_cons, List.map_nil, List.append_eq, List.cons_append, List.nil_append]
        repeat (first
          | (apply wpM_is
             · (intro us W hW hg K hK
                clear hg
                have d0 := hold hW k0
                have d1 := hold hW k1
                have d2 := hold hW k2
                have d3 := hold hW k3
                have d4 := hold hW k4
                have d5 := hold hW k5
                have d6 := hold hW k6
                have d7 := hold hW k7
                have d8 := hold hW k8
                have d9 := hold hW k9
                have d10 := hold hW k10
                have d11 := hold hW k11
                have e0 := hold hW j0
                have e1 := hold hW j1
                have e2 := hold hW j2
                have e3 := hold hW j3
                have e4 := hold hW j4
                have e5 := hold hW j5
                have e6 := hold hW j6
                have e7 := hold hW j7
                have e8 := hold hW j8
                have e9 := hold hW j9
                have e10 := hold hW j10
                have e11 := hold hW j11
                simp only [fillA]
                go_simp
                first
                | exact hK _ (Below.refl _ _))
             simp only [setD, List.set_cons_zero, List.set_cons_succ]))
        by_cases hxy : x = y
        · subst hxy
          apply wpM_is
          · intro us W hW hg K hK
            clear hg
            simp only [fillA]
            go_simp
            exact hK _ (Below.refl _ _)
          simp only [setD, List.set_cons_zero, List.set_cons_succ]
          intro us W hW hg
          simp only [fillA]
          clear hg
          have NE := Lib.hid (show a.take (k + 1) = b.take (k + 1) from by rw [List.take_add_one, List.take_add_one, HE.out, HX.out, HY.out])
          clear k0 k1 k2 k3 k4 k5 k6 k7 k8 k9 k10 k11 j0 j1 j2 j3 j4 j5 j6 j7 j8 j9 j10 j11
          go_wp2_with fail
          go_roundg (a.length - (k + 1))
          case rel => exact ⟨k + 1, by go_num, Nat.le_refl _, hlt, below_tr BR.out hW, NE.out⟩
          case measure => have := HM.out; omega
        · refine wpM_is (v := .bool true) ?_ ?_
          · intro us W hW hg K hK
            clear hg
            simp only [fillA]
            clear k0 k1 k2 k3 k4 k5 k6 k7 k8 k9 k10 k11 j0 j1 j2 j3 j4 j5 j6 j7 j8 j9 j10 j11
            by_cases n0 : x.name = y.name
            case neg =>
              have t0 := tstr_ne n0
              clear n0 hxy
              go_simp
              exact hK _ (Below.refl _ _)
            have t0 : (x.name.toList == y.name.toList) = true := by rw [n0]; simp
            replace n0 := Lib.hid n0
            by_cases n1 : x.parent = y.parent
            case neg =>
              have t1 := tstr_ne n1
              clear n1 hxy
              go_simp
              exact hK _ (Below.refl _ _)
            have t1 : (x.parent.toList == y.parent.toList) = true := by rw [n1]; simp
            replace n1 := Lib.hid n1
            by_cases n2 : x.lim.c = y.lim.c
            case neg =>
              have t2 := beq_false_of_ne n2
              clear n2 hxy
              go_simp
              exact hK _ (Below.refl _ _)
            have t2 : (x.lim.c == y.lim.c) = true := by rw [n2]; simp
            replace n2 := Lib.hid n2
            by_cases n3 : x.lim.m = y.lim.m
            case neg =>
              have t3 := beq_false_of_ne n3
              clear n3 hxy
              go_simp
              exact hK _ (Below.refl _ _)
            have t3 : (x.lim.m == y.lim.m) = true := by rw [n3]; simp
            replace n3 := Lib.hid n3
            by_cases n4 : x.lim.p = y.lim.p
            case neg =>
              have t4 := beq_false_of_ne n4
              clear n4 hxy
              go_simp
              exact hK _ (Below.refl _ _)
            have t4 : (x.lim.p == y.lim.p) = true := by rw [n4]; simp
            replace n4 := Lib.hid n4
            by_cases n5 : x.own.c = y.own.c
            case neg =>
              have t5 := beq_false_of_ne n5
              clear n5 hxy
              go_simp
              exact hK _ (Below.refl _ _)
            have t5 : (x.own.c == y.own.c) = true := by rw [n5]; simp
            replace n5 := Lib.hid n5
            by_cases n6 : x.own.m = y.own.m
            case neg =>
              have t6 := beq_false_of_ne n6
              clear n6 hxy
              go_simp
              exact hK _ (Below.refl _ _)
            have t6 : (x.own.m == y.own.m) = true := by rw [n6]; simp
            replace n6 := Lib.hid n6
            by_cases n7 : x.own.p = y.own.p
            case neg =>
              have t7 := beq_false_of_ne n7
              clear n7 hxy
              go_simp
              exact hK _ (Below.refl _ _)
            have t7 : (x.own.p == y.own.p) = true := by rw [n7]; simp
            replace n7 := Lib.hid n7
            by_cases n8 : x.sub.c = y.sub.c
            case neg =>
              have t8 := beq_false_of_ne n8
              clear n8 hxy
              go_simp
              exact hK _ (Below.refl _ _)
            have t8 : (x.sub.c == y.sub.c) = true := by rw [n8]; simp
            replace n8 := Lib.hid n8
            by_cases n9 : x.sub.m = y.sub.m
            case neg =>
              have t9 := beq_false_of_ne n9
              clear n9 hxy
              go_simp
              exact hK _ (Below.refl _ _)
            have t9 : (x.sub.m == y.sub.m) = true := by rw [n9]; simp
            replace n9 := Lib.hid n9
            by_cases n10 : x.sub.p = y.sub.p
            case neg =>
              have t10 := beq_false_of_ne n10
              clear n10 hxy
              go_simp
              exact hK _ (Below.refl _ _)
            have t10 : (x.sub.p == y.sub.p) = true := by rw [n10]; simp
            replace n10 := Lib.hid n10
            by_cases n11 : x.ver = y.ver
            case neg =>
              have t11 := beq_false_of_ne n11
              clear n11 hxy
              go_simp
              exact hK _ (Below.refl _ _)
            have t11 : (x.ver == y.ver) = true := by rw [n11]; simp
            replace n11 := Lib.hid n11
            exact absurd (by
              replace n0 := n0.out
              replace n1 := n1.out
              replace n2 := n2.out
              replace n3 := n3.out
              replace n4 := n4.out
              replace n5 := n5.out
              replace n6 := n6.out
              replace n7 := n7.out
              replace n8 := n8.out
              replace n9 := n9.out
              replace n10 := n10.out
              replace n11 := n11.out
              obtain ⟨_, _, ⟨_, _, _⟩, ⟨_, _, _⟩, ⟨_, _, _⟩, _⟩ := x
              obtain ⟨_, _, ⟨_, _, _⟩, ⟨_, _, _⟩, ⟨_, _, _⟩, _⟩ := y
              simp only at n0 n1 n2 n3 n4 n5 n6 n7 n8 n9 n10 n11
              simp only [I12.mk.injEq, V3.mk.injEq]
              exact ⟨n0, n1, ⟨n2, n3, n4⟩, ⟨n5, n6, n7⟩, ⟨n8, n9, n10⟩, n11⟩) hxy
          simp only [setD, List.set_cons_zero, List.set_cons_succ]
          intro us W hW hg
          simp only [fillA]
          clear hg
          have BF := Lib.hid (below_tr BR.out hW)
          clear hW k0 k1 k2 k3 k4 k5 k6 k7 k8 k9 k10 k11 j0 j1 j2 j3 j4 j5 j6 j7 j8 j9 j10 j11
          have QF := Lib.hid (show q = false from by
            cases q with
            | false => rfl
            | true =>
              have e := HQ.out.1 rfl
              have h1 := HX.out
              rw [e, HY.out] at h1
              exact absurd (Option.some.inj h1).symm hxy)
          clear hxy
          go_wp2_with fail
          go_ret
          exact ⟨by rw [QF.out]; rfl, BF.out⟩
      · obtain rfl : k = a.length := by omega
        have QT := Lib.hid (show q = true from HQ.out.2 (by
          have e := HE.out
          rw [List.take_length, HL.out, List.take_length] at e
          exact e))
        go_wp2_with fail
        go_ret
        exact ⟨by rw [QT.out]; rfl, BR.out⟩
  · have nl : ((a.length : Int) == (b.length : Int)) = false := beq_false_of_ne (by omega)
    have QF : q = false := by
      cases q with
      | false => rfl
      | true => exact absurd (congrArg List.length (hq.1 rfl)) hl
    subst QF
    clear hq
    go_enter Try.func24, Try.ntmps24
    go_wp2_with fail
    go_ret
    exact ⟨rfl, Below.refl _ _⟩
end
end Go.Proofs.Ytmpakgabehplbaa
