/- Package shape: the one that is changed. -/
import Derived.Test.YtmpakgabehplbaaZhH
namespace Go.Proofs.Ytmpakgabehplbaa
open Go.RowKit
set_option linter.unusedVariables false
set_option linter.unusedSimpArgs false
theorem own_at12 {w : World} {B g n cap : Nat} {l : List I12} (h : IOwn w B l (.slice (some ⟨g, 0, none⟩) n cap)) {k : Nat} {x : I12} (hx : l[k]? = some x) : n = l.length ∧ I12At w g (k * 12) x := by
  obtain ⟨ao, cap', e, -, -, hat⟩ := irow_of_own h
  simp only [Value.slice.injEq] at e
  obtain ⟨rfl, e2, rfl⟩ := e
  obtain ⟨g', o', e3, hc⟩ := hat k x hx
  simp only [Option.some.injEq, Addr.mk.injEq, and_true] at e3
  obtain ⟨rfl, rfl⟩ := e3
  rw [Nat.zero_add] at hc
  exact ⟨e2, hc⟩
/-- len of a slice of which only this is known. -/
theorem wp_len_as {P : Program} {w : World} {ops : Array Oper} {o : Oper} {a : Act} {K : Act → World → Prop} {Q : Exit → Act → World → Prop} {E : Prop} (hw : Region.wanted o (yielded ops a.tmps) = true) (s : Operand) (t : TypeId)
    (ho : o.op = .call { callee := .builtin .len, args := #[s], argTypes := #[t] }) {el : TypeId} (hu : P.underlying t = some (.slice el)) {ao : Option Addr} {n c : Nat} (hs : a.eval s = .slice ao n c) (h : K (a.put o.dst (.int .i64 (n : Int))) w) :
    if Region.wanted o (yielded ops a.tmps) = true then o.wp P a w K Q else E := by
  rw [if_pos hw]
  unfold Oper.wp
  simp [execOp, ho, resolve, invoke, builtin, hs, Builtin.len_, run_underlying hu, Result.andThen]
  exact h
section
variable (w : World)
set_option maxHeartbeats 4000000 in
set_option maxRecDepth 20000 in
theorem pone (g n cap k : Nat) (hk : k < n) : Calls Try.prog 42 #[.agg #[.slice (some ⟨g, 0, none⟩) n cap, .int .i64 (k : Int)]] w (Made (.pointer (some ⟨g, k * 12, none⟩)) w) := by
  have BX := Lib.hid (below_al (Below.refl w.heap.size w) (.cells #[.slice (some ⟨g, 0, none⟩) n cap, .int .i64 (k : Int)] 69))
  have C0 := Lib.hid (ChB.new w (.slice (some ⟨g, 0, none⟩) n cap) (.int .i64 (k : Int)))
  obtain ⟨c0, c1⟩ := C0.out.cells
  have y0 : (0 : Int) ≤ (k : Int) := by omega
  have y1 : (k : Int) < (n : Int) := by omega
  go_enter Try.func42, Try.ntmps42
  go_wp2_with fail
  go_ret
  exact ⟨by simp, BX.out⟩
set_option maxHeartbeats 4000000 in
set_option maxRecDepth 20000 in
theorem plast (B : Nat) (l : List I12) (g n cap k : Nat) (x : I12) (hB : IOwn w B l (.slice (some ⟨g, 0, none⟩) n cap)) (hx : l[k]? = some x) : Calls Try.prog 40 #[.agg #[.slice (some ⟨g, 0, none⟩) n cap, .int .i64 (k : Int)]] w (Made (.bool (decide (9007199254740992 ≤ x.ver))) w) := by
  obtain ⟨rfl, hat⟩ := own_at12 hB hx
  have kl : k < l.length := (List.getElem?_eq_some_iff.1 hx).1
  have PN := Lib.hid (fun W => pone W g l.length cap k kl)
  have BX := Lib.hid (below_al (Below.refl w.heap.size w) (.cells #[.slice (some ⟨g, 0, none⟩) l.length cap, .int .i64 (k : Int)] 69))
  have C0 := Lib.hid (ChB.new w (.slice (some ⟨g, 0, none⟩) l.length cap) (.int .i64 (k : Int)))
  obtain ⟨c0, c1⟩ := C0.out.cells
  have k11 := hold BX.out hat.c11
  clear hB hx hat
  go_enter Try.func40, Try.ntmps40
  go_wp2_with fail
  generalize (w.alloc (.cells #[.slice (some ⟨g, 0, none⟩) l.length cap, .int .i64 (k : Int)] 69)) = w0 at *
  with_reducible refine (PN.out _).mono ?_
  rintro e w1 ⟨rfl, hb⟩
  have B1 := Lib.hid (below_tr BX.out hb)
  replace k11 := hold hb k11
  clear hb c0 c1
  go_wp2_with fail
  go_ret
  exact ⟨rfl, B1.out⟩
set_option maxHeartbeats 4000000 in
set_option maxRecDepth 20000 in
theorem pcount (B : Nat) (l : List I12) (g n cap k : Nat) (x : I12) (hB : IOwn w B l (.slice (some ⟨g, 0, none⟩) n cap)) (hx : l[k]? = some x) (hv : x.ver ≤ 9007199254740992) (hv0 : 0 ≤ x.ver) : Calls Try.prog 43 #[.agg #[.slice (some ⟨g, 0, none⟩) n cap, .int .i64 (k : Int)]] w fun e w' => e = .returned (.tuple #[]) ∧ ∃ w2, Below w.heap.size w w2 ∧ w' = w2.setCell ⟨g, k * 12 + 11, none⟩ (.int .i64 (x.ver + 1)) := by
  obtain ⟨rfl, hat⟩ := own_at12 hB hx
  have kl : k < l.length := (List.getElem?_eq_some_iff.1 hx).1
  have PN := Lib.hid (fun W => pone W g l.length cap k kl)
  have BX := Lib.hid (below_al (Below.refl w.heap.size w) (.cells #[.slice (some ⟨g, 0, none⟩) l.length cap, .int .i64 (k : Int)] 69))
  have C0 := Lib.hid (ChB.new w (.slice (some ⟨g, 0, none⟩) l.length cap) (.int .i64 (k : Int)))
  have OX := Lib.hid (own_below hB BX.out)
  obtain ⟨c0, c1⟩ := C0.out.cells
  have k11 := hold BX.out hat.c11
  clear hB hx hat
  go_enter Try.func43, Try.ntmps43
  go_wp2_with fail
  generalize (w.alloc (.cells #[.slice (some ⟨g, 0, none⟩) l.length cap, .int .i64 (k : Int)] 69)) = w0 at *
  with_reducible refine (PN.out _).mono ?_
  rintro e w1 ⟨rfl, hb⟩
  have B1 := Lib.hid (below_tr BX.out hb)
  have OY := Lib.hid (own_below OX.out hb)
  have fz := IOwn.frz OY.out (k * 12 + 11)
  replace k11 := hold hb k11
  clear hb c0 c1
  go_wp2_with fail
  exact bodyPost_end (v := .tuple #[]) (by simp [results, Try.results43, go_sem]) rfl ⟨rfl, w1, B1.out, rfl⟩
set_option maxHeartbeats 8000000 in
set_option maxRecDepth 20000 in
theorem pbusy0 (B : Nat) (l : List I12) (g n cap k : Nat) (x : I12) (hr : RT l) (hB : IOwn w B l (.slice (some ⟨g, 0, none⟩) n cap)) (hx : l[k]? = some x) (ho : x.own = z3) : Calls Try.prog 48 #[.agg #[.slice (some ⟨g, 0, none⟩) n cap, .int .i64 (k : Int)]] w (Made (.bool (!(belowI l x.name).isEmpty || !eqV x.own z3)) w) := by
  obtain ⟨rfl, hat⟩ := own_at12 hB hx
  have kl : k < l.length := (List.getElem?_eq_some_iff.1 hx).1
  have hl := hr.len
  have PN := Lib.hid (fun W => pone W g l.length cap k kl)
  have BX := Lib.hid (below_al (Below.refl w.heap.size w) (.cells #[.slice (some ⟨g, 0, none⟩) l.length cap, .int .i64 (k : Int)] 69))
  have C0 := Lib.hid (ChB.new w (.slice (some ⟨g, 0, none⟩) l.length cap) (.int .i64 (k : Int)))
  have OR := Lib.hid (irow_of_own hB)
  have HS := Lib.hid hr.short
  have BL := Lib.hid (fun W (hW : Below w.heap.size w W) => pBelow W l _ (OR.out.below hW) (by omega) HS.out x.name (HS.out x (List.mem_of_getElem? hx)).1)
  have A0 := Lib.hid (hat.below BX.out)
  obtain ⟨c0, c1⟩ := C0.out.cells
  obtain ⟨k0, k1, k2, k3, k4, k5, k6, k7, k8, k9, k10, k11⟩ := A0.out
  clear hB hx hat k1 k2 k3 k4 k8 k9 k10 k11 hr
  go_enter Try.func48, Try.ntmps48
  go_wp2_with fail
  generalize (w.alloc (.cells #[.slice (some ⟨g, 0, none⟩) l.length cap, .int .i64 (k : Int)] 69)) = w0 at *
  have BX2 := Lib.hid BX.out
  go_upto_region 1 with fail
  · have R := Lib.hid (show (!(belowI l x.name).isEmpty || !eqV x.own z3) = (!(belowI l x.name).isEmpty) by rw [eqV_iff.2 ho]; simp)
    rw [ho] at k5 k6 k7
    unfold z3 at k5 k6 k7
    clear ho
    refine wp_region_mono (by kernel_rfl) (by kernel_rfl) ?_
    simp only [List.map_cons, List.map_nil]
    repeat (first
      | (apply wpM_is
         · (intro us W hW hg K hK
            clear hg
            have d0 := hold hW c0
            have d1 := hold hW c1
            have e0 := hold hW k0
            have e5 := hold hW k5
            have e6 := hold hW k6
            have e7 := hold hW k7
            simp only [fillA]
            go_simp
            first
            | exact hK _ (Below.refl _ _)
            | ((with_reducible refine (PN.out _).mono ?_); rintro e w' ⟨rfl, hb⟩; exact hK _ hb))
         simp only [setD, List.set_cons_zero, List.set_cons_succ]))
    refine wpM_any (fun v W => StrsO W w.heap.size v (belowI l x.name)) (fun v W W' h hb => StrsO.below h hb) ?_ ?_
    · intro us W hW hg K hK
      clear hg
      simp only [fillA]
      go_simp
      (with_reducible refine (BL.out W (below_tr BX.out hW)).mono ?_)
      rintro e w' ⟨v, rfl, hb, ho⟩
      exact hK _ _ (own_lower0 ho (below_tr BX.out hW).size) hb
    simp only [setD, List.set_cons_zero, List.set_cons_succ]
    refine wpM_is (v := .int .i64 ((belowI l x.name).length : Int)) ?_ ?_
    · intro us W hW hg K hK
      have h0 := hg 18 (List.elem_iff.1 (by kernel_rfl)) _ rfl
      obtain ⟨so, sc, hv⟩ := StrsO.shape h0
      clear hg h0
      exact wp_len_as (a := ⟨(fillA _ 0 us).toArray, _⟩) (by kernel_rfl) (.tmp 18) 64 rfl Try.underlying64 (show Act.eval ⟨(fillA _ 0 us).toArray, _⟩ (.tmp 18) = _ from hv) (hK _ (Below.refl _ _))
    simp only [setD, List.set_cons_zero, List.set_cons_succ]
    repeat (first
      | (apply wpM_is
         · (intro us W hW hg K hK
            clear hg
            have d0 := hold hW c0
            have d1 := hold hW c1
            have e0 := hold hW k0
            have e5 := hold hW k5
            have e6 := hold hW k6
            have e7 := hold hW k7
            simp only [fillA]
            go_simp
            first
            | exact hK _ (Below.refl _ _)
            | ((with_reducible refine (PN.out _).mono ?_); rintro e w' ⟨rfl, hb⟩; exact hK _ hb))
         simp only [setD, List.set_cons_zero, List.set_cons_succ]))
    intro us W hW hg
    simp only [fillA]
    clear hg
    have BF := Lib.hid (below_tr BX.out hW)
    go_wp2_with fail
    go_ret
    refine ⟨?_, BF.out⟩
    rw [R.out]
    cases belowI l x.name <;> simp
set_option maxHeartbeats 8000000 in
set_option maxRecDepth 20000 in
theorem pbusy1 (B : Nat) (l : List I12) (g n cap k : Nat) (x : I12) (hr : RT l) (hB : IOwn w B l (.slice (some ⟨g, 0, none⟩) n cap)) (hx : l[k]? = some x) (hc : x.own.c ≠ 0) : Calls Try.prog 48 #[.agg #[.slice (some ⟨g, 0, none⟩) n cap, .int .i64 (k : Int)]] w (Made (.bool (!(belowI l x.name).isEmpty || !eqV x.own z3)) w) := by
  obtain ⟨rfl, hat⟩ := own_at12 hB hx
  have kl : k < l.length := (List.getElem?_eq_some_iff.1 hx).1
  have hl := hr.len
  have PN := Lib.hid (fun W => pone W g l.length cap k kl)
  have BX := Lib.hid (below_al (Below.refl w.heap.size w) (.cells #[.slice (some ⟨g, 0, none⟩) l.length cap, .int .i64 (k : Int)] 69))
  have C0 := Lib.hid (ChB.new w (.slice (some ⟨g, 0, none⟩) l.length cap) (.int .i64 (k : Int)))
  have OR := Lib.hid (irow_of_own hB)
  have HS := Lib.hid hr.short
  have BL := Lib.hid (fun W (hW : Below w.heap.size w W) => pBelow W l _ (OR.out.below hW) (by omega) HS.out x.name (HS.out x (List.mem_of_getElem? hx)).1)
  have A0 := Lib.hid (hat.below BX.out)
  obtain ⟨c0, c1⟩ := C0.out.cells
  obtain ⟨k0, k1, k2, k3, k4, k5, k6, k7, k8, k9, k10, k11⟩ := A0.out
  clear hB hx hat k1 k2 k3 k4 k8 k9 k10 k11 hr
  go_enter Try.func48, Try.ntmps48
  go_wp2_with fail
  generalize (w.alloc (.cells #[.slice (some ⟨g, 0, none⟩) l.length cap, .int .i64 (k : Int)] 69)) = w0 at *
  have BX2 := Lib.hid BX.out
  go_upto_region 1 with fail
  have ho : x.own ≠ z3 := fun e => hc (by rw [e]; rfl)
  have R := Lib.hid (show (!(belowI l x.name).isEmpty || !eqV x.own z3) = true by rw [show eqV x.own z3 = false from by cases h : eqV x.own z3 with | false => rfl | true => exact absurd (eqV_iff.1 h) ho]; simp)
  clear ho
  · skip
    have ne : (x.own.c == 0) = false := beq_false_of_ne hc
    have ne1 : ¬ x.own.c = 0 := hc
    clear hc
    refine wp_region_mono (by kernel_rfl) (by kernel_rfl) ?_
    simp only [List.map_cons, List.map_nil]
    repeat (first
      | (apply wpM_is
         · (intro us W hW hg K hK
            clear hg
            have d0 := hold hW c0
            have d1 := hold hW c1
            have e0 := hold hW k0
            have e5 := hold hW k5
            have e6 := hold hW k6
            have e7 := hold hW k7
            simp only [fillA]
            go_simp
            first
            | exact hK _ (Below.refl _ _)
            | ((with_reducible refine (PN.out _).mono ?_); rintro e w' ⟨rfl, hb⟩; exact hK _ hb))
         simp only [setD, List.set_cons_zero, List.set_cons_succ]))
    intro us W hW hg
    simp only [fillA]
    clear hg
    have BF := Lib.hid (below_tr BX.out hW)
    go_wp2_with fail
    go_ret
    exact ⟨by rw [R.out]; rfl, BF.out⟩
set_option maxHeartbeats 8000000 in
set_option maxRecDepth 20000 in
theorem pbusy2 (B : Nat) (l : List I12) (g n cap k : Nat) (x : I12) (hr : RT l) (hB : IOwn w B l (.slice (some ⟨g, 0, none⟩) n cap)) (hx : l[k]? = some x) (h0 : x.own.c = 0) (hc : x.own.m ≠ 0) : Calls Try.prog 48 #[.agg #[.slice (some ⟨g, 0, none⟩) n cap, .int .i64 (k : Int)]] w (Made (.bool (!(belowI l x.name).isEmpty || !eqV x.own z3)) w) := by
  obtain ⟨rfl, hat⟩ := own_at12 hB hx
  have kl : k < l.length := (List.getElem?_eq_some_iff.1 hx).1
  have hl := hr.len
  have PN := Lib.hid (fun W => pone W g l.length cap k kl)
  have BX := Lib.hid (below_al (Below.refl w.heap.size w) (.cells #[.slice (some ⟨g, 0, none⟩) l.length cap, .int .i64 (k : Int)] 69))
  have C0 := Lib.hid (ChB.new w (.slice (some ⟨g, 0, none⟩) l.length cap) (.int .i64 (k : Int)))
  have OR := Lib.hid (irow_of_own hB)
  have HS := Lib.hid hr.short
  have BL := Lib.hid (fun W (hW : Below w.heap.size w W) => pBelow W l _ (OR.out.below hW) (by omega) HS.out x.name (HS.out x (List.mem_of_getElem? hx)).1)
  have A0 := Lib.hid (hat.below BX.out)
  obtain ⟨c0, c1⟩ := C0.out.cells
  obtain ⟨k0, k1, k2, k3, k4, k5, k6, k7, k8, k9, k10, k11⟩ := A0.out
  clear hB hx hat k1 k2 k3 k4 k8 k9 k10 k11 hr
  go_enter Try.func48, Try.ntmps48
  go_wp2_with fail
  generalize (w.alloc (.cells #[.slice (some ⟨g, 0, none⟩) l.length cap, .int .i64 (k : Int)] 69)) = w0 at *
  have BX2 := Lib.hid BX.out
  go_upto_region 1 with fail
  have ho : x.own ≠ z3 := fun e => hc (by rw [e]; rfl)
  have R := Lib.hid (show (!(belowI l x.name).isEmpty || !eqV x.own z3) = true by rw [show eqV x.own z3 = false from by cases h : eqV x.own z3 with | false => rfl | true => exact absurd (eqV_iff.1 h) ho]; simp)
  clear ho
  · skip
    have ne : (x.own.m == 0) = false := beq_false_of_ne hc
    have ne1 : ¬ x.own.m = 0 := hc
    rw [h0] at k5
    clear hc h0
    refine wp_region_mono (by kernel_rfl) (by kernel_rfl) ?_
    simp only [List.map_cons, List.map_nil]
    repeat (first
      | (apply wpM_is
         · (intro us W hW hg K hK
            clear hg
            have d0 := hold hW c0
            have d1 := hold hW c1
            have e0 := hold hW k0
            have e5 := hold hW k5
            have e6 := hold hW k6
            have e7 := hold hW k7
            simp only [fillA]
            go_simp
            first
            | exact hK _ (Below.refl _ _)
            | ((with_reducible refine (PN.out _).mono ?_); rintro e w' ⟨rfl, hb⟩; exact hK _ hb))
         simp only [setD, List.set_cons_zero, List.set_cons_succ]))
    intro us W hW hg
    simp only [fillA]
    clear hg
    have BF := Lib.hid (below_tr BX.out hW)
    go_wp2_with fail
    go_ret
    exact ⟨by rw [R.out]; rfl, BF.out⟩
set_option maxHeartbeats 8000000 in
set_option maxRecDepth 20000 in
theorem pbusy3 (B : Nat) (l : List I12) (g n cap k : Nat) (x : I12) (hr : RT l) (hB : IOwn w B l (.slice (some ⟨g, 0, none⟩) n cap)) (hx : l[k]? = some x) (h0 : x.own.c = 0) (h1 : x.own.m = 0) (hc : x.own.p ≠ 0) : Calls Try.prog 48 #[.agg #[.slice (some ⟨g, 0, none⟩) n cap, .int .i64 (k : Int)]] w (Made (.bool (!(belowI l x.name).isEmpty || !eqV x.own z3)) w) := by
  obtain ⟨rfl, hat⟩ := own_at12 hB hx
  have kl : k < l.length := (List.getElem?_eq_some_iff.1 hx).1
  have hl := hr.len
  have PN := Lib.hid (fun W => pone W g l.length cap k kl)
  have BX := Lib.hid (below_al (Below.refl w.heap.size w) (.cells #[.slice (some ⟨g, 0, none⟩) l.length cap, .int .i64 (k : Int)] 69))
  have C0 := Lib.hid (ChB.new w (.slice (some ⟨g, 0, none⟩) l.length cap) (.int .i64 (k : Int)))
  have OR := Lib.hid (irow_of_own hB)
  have HS := Lib.hid hr.short
  have BL := Lib.hid (fun W (hW : Below w.heap.size w W) => pBelow W l _ (OR.out.below hW) (by omega) HS.out x.name (HS.out x (List.mem_of_getElem? hx)).1)
  have A0 := Lib.hid (hat.below BX.out)
  obtain ⟨c0, c1⟩ := C0.out.cells
  obtain ⟨k0, k1, k2, k3, k4, k5, k6, k7, k8, k9, k10, k11⟩ := A0.out
  clear hB hx hat k1 k2 k3 k4 k8 k9 k10 k11 hr
  go_enter Try.func48, Try.ntmps48
  go_wp2_with fail
  generalize (w.alloc (.cells #[.slice (some ⟨g, 0, none⟩) l.length cap, .int .i64 (k : Int)] 69)) = w0 at *
  have BX2 := Lib.hid BX.out
  go_upto_region 1 with fail
  have ho : x.own ≠ z3 := fun e => hc (by rw [e]; rfl)
  have R := Lib.hid (show (!(belowI l x.name).isEmpty || !eqV x.own z3) = true by rw [show eqV x.own z3 = false from by cases h : eqV x.own z3 with | false => rfl | true => exact absurd (eqV_iff.1 h) ho]; simp)
  clear ho
  · skip
    have ne : (x.own.p == 0) = false := beq_false_of_ne hc
    have ne1 : ¬ x.own.p = 0 := hc
    rw [h0] at k5
    rw [h1] at k6
    clear hc h0 h1
    refine wp_region_mono (by kernel_rfl) (by kernel_rfl) ?_
    simp only [List.map_cons, List.map_nil]
    repeat (first
      | (apply wpM_is
         · (intro us W hW hg K hK
            clear hg
            have d0 := hold hW c0
            have d1 := hold hW c1
            have e0 := hold hW k0
            have e5 := hold hW k5
            have e6 := hold hW k6
            have e7 := hold hW k7
            simp only [fillA]
            go_simp
            first
            | exact hK _ (Below.refl _ _)
            | ((with_reducible refine (PN.out _).mono ?_); rintro e w' ⟨rfl, hb⟩; exact hK _ hb))
         simp only [setD, List.set_cons_zero, List.set_cons_succ]))
    intro us W hW hg
    simp only [fillA]
    clear hg
    have BF := Lib.hid (below_tr BX.out hW)
    go_wp2_with fail
    go_ret
    exact ⟨by rw [R.out]; rfl, BF.out⟩
theorem pbusy (B : Nat) (l : List I12) (g n cap k : Nat) (x : I12) (hr : RT l) (hB : IOwn w B l (.slice (some ⟨g, 0, none⟩) n cap)) (hx : l[k]? = some x) : Calls Try.prog 48 #[.agg #[.slice (some ⟨g, 0, none⟩) n cap, .int .i64 (k : Int)]] w (Made (.bool (!(belowI l x.name).isEmpty || !eqV x.own z3)) w) := by
  by_cases h0 : x.own.c = 0
  · by_cases h1 : x.own.m = 0
    · by_cases h2 : x.own.p = 0
      · exact pbusy0 w B l g n cap k x hr hB hx (v3_eq h0 h1 h2)
      · exact pbusy3 w B l g n cap k x hr hB hx h0 h1 h2
    · exact pbusy2 w B l g n cap k x hr hB hx h0 h1
  · exact pbusy1 w B l g n cap k x hr hB hx h0
end
end Go.Proofs.Ytmpakgabehplbaa
