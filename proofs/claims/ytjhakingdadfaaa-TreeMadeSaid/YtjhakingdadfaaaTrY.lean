/- The law of package tree: made, and turned. -/
import Derived.Test.YtjhakingdadfaaaTrX
import Derived.Test.YtjhakingdadfaaaTrD
namespace Go.Proofs.Ytjhakingdadfaaa
open Go.RowKit
set_option linter.unusedVariables false
set_option linter.unusedSimpArgs false
theorem IOwn.set1 {w : World} {B g k cap : Nat} {l : List I12} (h : IOwn w B l (.slice (some ⟨g, 0, none⟩) l.length cap)) {x y : I12} (hk : l[k]? = some x) (r : Nat) (hr : r < 12) (c : Value) (hy : y.cells = x.cells.set r c) :
    IOwn (w.setCell ⟨g, k * 12 + r, none⟩ c) B (l.set k y) (.slice (some ⟨g, 0, none⟩) l.length cap) ∧ w.grownBy (w.setCell ⟨g, k * 12 + r, none⟩ c) (some g) := by
  have h2 := World.ownsRow.stored h (k * 12 + r) c
  refine ⟨?_, h2.2⟩
  unfold IOwn
  rw [i12s_set l k r x y c hk hr hy, List.length_set]
  exact h2.1
def shortT (l : List I12) : Prop := ∀ u ∈ l, u.name.size ≤ 1000000 ∧ u.parent.size ≤ 1000000
theorem shortT.set {l : List I12} (h : shortT l) (k : Nat) {y : I12} (h1 : y.name.size ≤ 1000000) (h2 : y.parent.size ≤ 1000000) : shortT (l.set k y) := by
  intro u hu
  rcases List.mem_or_eq_of_mem_set hu with hu | rfl
  · exact h u hu
  · exact ⟨h1, h2⟩
section
variable (w : World)
set_option maxHeartbeats 16000000 in
set_option maxRecDepth 100000 in
theorem law_treemade (ns : List Nat) (nv : Value) (which how by' : Nat) (hw : which ≤ 255) (hh : how ≤ 255) (hy : by' ≤ 255) (h : NumsRd .u8 w nv (ns.map fun n : Nat => (n : Int))) (hr : ∀ x ∈ ns, x ≤ 255) (hmx : ns.length ≤ maxLen) : Calls Try.prog 4 #[nv, .int .u8 (which : Int), .int .u8 (how : Int), .int .u8 (by' : Int)] w (Made (.bool true) w) := by
  have AW := Lib.hid (fun W => law_awake12 W)
  have HN := Lib.hid h
  have HRR := Lib.hid hr
  obtain ⟨ao, cap, rfl, hat⟩ := h
  rw [List.length_map] at *
  clear hat hr
  unfold maxLen at hmx
  by_cases hbig : 90 < ns.length
  · have y0 : (90 : Int) < (ns.length : Int) := by omega
    go_enter Try.func4, Try.ntmps4
    go_wp2_with fail
    with_reducible refine (AW.out _).mono ?_
    rintro e w1 ⟨rfl, hb⟩
    have B1 := Lib.hid hb
    clear hb
    go_wp2_with fail
    go_ret
    exact ⟨rfl, B1.out⟩
  · have y0 : (ns.length : Int) ≤ 90 := by omega
    have MK := Lib.hid (lmakeT w ns (.slice ao ns.length cap) (by simpa using HN.out) HRR.out (by omega))
    have MR := Lib.hid (make_right ns [] RT.nil (Nat.zero_le _))
    generalize makeT ns [] = l at *
    have RR := Lib.hid MR.out.1
    have hl24 : l.length ≤ 24 := MR.out.2
    have PR := Lib.hid (fun W lv (hi : IRow W l lv) => pright W l lv hi RR.out.short true (iff_of_true rfl (right_iff.2 RR.out)))
    have SM := Lib.hid (fun W lv (hi : IRow W l lv) s (hs : s.size ≤ 1000000) => psame W l lv hi RR.out RR.out.short s hs)
    go_enter Try.func4, Try.ntmps4
    go_wp2_with fail
    with_reducible refine MK.out.mono ?_
    rintro e w1 ⟨lv, rfl, hb1, ho1⟩
    have B1 := Lib.hid hb1
    have O1 := Lib.hid ho1
    have W1 := Lib.hid (irow_of_own ho1)
    obtain ⟨lo, lc, rfl⟩ := W1.out.shape
    clear hb1 ho1
    obtain ⟨cc, hcc⟩ : ∃ cc : UInt8, cc = UInt8.ofNat (97 + which % 26) := ⟨_, rfl⟩
    have hcv := ddig_conv w1 (97 + (which : Int) % 26) cc (by
      rw [hcc, UInt8.toNat_ofNat']
      rw [show (97 + which % 26) % 2 ^ 8 = 97 + which % 26 by omega]
      push_cast
      rfl)
    have wc1 : IntKind.u8.wrap (97 + (which : Int) % 26) = 97 + (which : Int) % 26 := by
      rw [IntKind.wrap_u8]; omega
    have BA := Lib.hid (below_al (Below.refl w1.heap.size w1) (.cells #[.int .u8 (97 + (which : Int) % 26)] 5))
    replace hcc := Lib.hid hcc
    go_wp2_with fail
    generalize w1.alloc (.cells #[.int .u8 (97 + (which : Int) % 26)] 5) = wa at *
    clear hcv wc1
    have WA := Lib.hid (W1.out.below BA.out)
    with_reducible refine (PR.out _ _ WA.out).mono ?_
    rintro e w2 ⟨rfl, hb⟩
    have C2 := Lib.hid (below_tr BA.out hb)
    clear hb
    go_wp2_with fail
    have cs1 : (⟨#[cc]⟩ : ByteArray).size ≤ 1000000 := by show 1 ≤ 1000000; decide
    with_reducible refine (SM.out _ _ (W1.out.below C2.out) ⟨#[cc]⟩ cs1).mono ?_
    rintro e w3 ⟨rfl, hb⟩
    have C3 := Lib.hid (below_tr C2.out hb)
    clear hb
    go_wp2_with fail
    with_reducible refine (SM.out _ _ (W1.out.below C3.out) ⟨#[]⟩ (by decide)).mono ?_
    rintro e w4 ⟨rfl, hb⟩
    have C4 := Lib.hid (below_tr C3.out hb)
    clear hb
    by_cases hl0 : l.length = 0
    · rw [hl0]
      go_wp2_with fail
      with_reducible refine (AW.out _).mono ?_
      rintro e w5 ⟨rfl, hb⟩
      have B5 := Lib.hid (below_tr (below_tr B1.out C4.out) hb)
      clear hb
      go_wp2_with fail
      go_ret
      exact ⟨rfl, B5.out⟩
    · have lpos : 0 < l.length := by omega
      obtain ⟨p, hp⟩ : ∃ p, p = which % l.length := ⟨_, rfl⟩
      have pl : p < l.length := by rw [hp]; exact Nat.mod_lt _ lpos
      have hpi : (which : Int) % (l.length : Int) = (p : Int) := by rw [hp]; push_cast; rfl
      obtain ⟨x, hx⟩ : ∃ x, l[p]? = some x := ⟨_, List.getElem?_eq_getElem pl⟩
      have O4 := Lib.hid (O1.out.belowI C4.out)
      have nz : ((l.length : Int) == 0) = false := beq_false_of_ne (by omega)
      have z0 : (0 : Int) ≤ (p : Int) := by omega
      have z1 : (p : Int) < (l.length : Int) := by omega
      have z2 : (l.length : Int) ≠ 0 := by omega
      obtain ⟨g, rfl⟩ : ∃ g, lo = some ⟨g, 0, none⟩ := by
        rcases O4.out.2 with ⟨e, h0⟩ | ⟨g, c, cur, e, _⟩ <;> simp only [Value.slice.injEq] at e
        · omega
        · exact ⟨_, e.1⟩
      clear hp
      -- GEN
      have HX := Lib.hid hx
      have xm := List.mem_of_getElem? hx
      have C4' := Lib.hid (below_tr B1.out C4.out)
      have AT4 := Lib.hid (O4.out.at hx)
      have GB := Lib.hid (iblk_at O4.out).1
      have SHO : Hid (shortT l) := Lib.hid RR.out.short
      have NMS := Lib.hid (RR.out.short x xm).1
      have PAS := Lib.hid (RR.out.short x xm).2
      obtain ⟨b1, b2, b3⟩ := may_bounds (RR.out.may x xm)
      obtain ⟨d1, d2, d3⟩ := may_bounds (one_iff.1 (RR.out.one x xm)).2.2.1
      have e1 : IntKind.i64.wrap (x.sub.c + (by' : Int)) = x.sub.c + (by' : Int) := by rw [IntKind.wrap_i64]; omega
      have e2 : IntKind.i64.wrap (x.own.m + (by' : Int)) = x.own.m + (by' : Int) := by rw [IntKind.wrap_i64]; omega
      have e3 : IntKind.i64.wrap ((by' : Int) - 2) = (by' : Int) - 2 := by rw [IntKind.wrap_i64]; omega
      have e4 : IntKind.i64.wrap (by' : Int) = (by' : Int) := by rw [IntKind.wrap_i64]; omega
      clear hx xm b1 b2 b3 d1 d2 d3
      have hqi : (how : Int) % 7 = ((how % 7 : Nat) : Int) := by push_cast; rfl
      have q7 : how % 7 < 7 := Nat.mod_lt _ (by decide)
      generalize how % 7 = q at hqi q7
      match q, q7, hqi with
        | 0, _, hqi =>
          have hqj : (how : Int) % 7 = 0 := hqi
          clear hqi
          obtain ⟨c0, c1, c2, c3, c4, c5, c6, c7, c8, c9, c10, c11⟩ := AT4.out
          have fz := O4.out.frz (p * 12 + 8)
          clear c0 c1 c2 c3 c4 c5 c6 c7 c9 c10 c11
          have h2 := IOwn.set1 O4.out HX.out (y := ⟨x.name, x.parent, x.lim, x.own, ⟨x.sub.c + (by' : Int), x.sub.m, x.sub.p⟩, x.ver⟩) 8 (by decide) (.int .i64 (x.sub.c + (by' : Int))) rfl
          have O5 := Lib.hid h2.1
          have B5 := Lib.hid (below_grown' (C4'.out) h2.2 (fun k hk => by cases hk; exact GB.out))
          have SH := Lib.hid (SHO.out.set p (y := ⟨x.name, x.parent, x.lim, x.own, ⟨x.sub.c + (by' : Int), x.sub.m, x.sub.p⟩, x.ver⟩) (NMS.out) (PAS.out))
          clear h2
          go_wp2_with fail
          generalize w4.setCell ⟨g, p * 12 + 8, none⟩ (.int .i64 (x.sub.c + (by' : Int))) = w5 at *
          generalize l.set p ⟨x.name, x.parent, x.lim, x.own, ⟨x.sub.c + (by' : Int), x.sub.m, x.sub.p⟩, x.ver⟩ = l' at *
          have W5 := Lib.hid (irow_of_own O5.out)
          obtain ⟨bb, hbb⟩ := bool_of (rightP l')
          have P1 := Lib.hid (fun W lv (hi : IRow W l' lv) => pright W l' lv hi SH.out bb hbb)
          have P2 := Lib.hid (fun W lv (hi : IRow W l' lv) => rright W l' lv hi (fun u hu => (SH.out u hu).1) bb hbb)
          clear hbb
          with_reducible refine (P1.out _ _ W5.out).mono ?_
          rintro e w6 ⟨rfl, hb⟩
          have B6 := Lib.hid (below_tr B5.out hb)
          have W6 := Lib.hid (W5.out.below hb)
          clear hb
          go_wp2_with fail
          with_reducible refine (P2.out _ _ W6.out).mono ?_
          rintro e w7 ⟨rfl, hb⟩
          have B7 := Lib.hid (below_tr B6.out hb)
          clear hb
          go_wp2_with fail
          with_reducible refine (AW.out _).mono ?_
          rintro e w8 ⟨rfl, hb⟩
          have B8 := Lib.hid (below_tr B7.out hb)
          clear hb
          go_wp2_with fail
          go_ret
          exact ⟨rfl, B8.out⟩
        | 1, _, hqi =>
          have hqj : (how : Int) % 7 = 1 := hqi
          clear hqi
          obtain ⟨c0, c1, c2, c3, c4, c5, c6, c7, c8, c9, c10, c11⟩ := AT4.out
          have fz := O4.out.frz (p * 12 + 6)
          clear c0 c1 c2 c3 c4 c5 c7 c8 c9 c10 c11
          have h2 := IOwn.set1 O4.out HX.out (y := ⟨x.name, x.parent, x.lim, ⟨x.own.c, x.own.m + (by' : Int), x.own.p⟩, x.sub, x.ver⟩) 6 (by decide) (.int .i64 (x.own.m + (by' : Int))) rfl
          have O5 := Lib.hid h2.1
          have B5 := Lib.hid (below_grown' (C4'.out) h2.2 (fun k hk => by cases hk; exact GB.out))
          have SH := Lib.hid (SHO.out.set p (y := ⟨x.name, x.parent, x.lim, ⟨x.own.c, x.own.m + (by' : Int), x.own.p⟩, x.sub, x.ver⟩) (NMS.out) (PAS.out))
          clear h2
          go_wp2_with fail
          generalize w4.setCell ⟨g, p * 12 + 6, none⟩ (.int .i64 (x.own.m + (by' : Int))) = w5 at *
          generalize l.set p ⟨x.name, x.parent, x.lim, ⟨x.own.c, x.own.m + (by' : Int), x.own.p⟩, x.sub, x.ver⟩ = l' at *
          have W5 := Lib.hid (irow_of_own O5.out)
          obtain ⟨bb, hbb⟩ := bool_of (rightP l')
          have P1 := Lib.hid (fun W lv (hi : IRow W l' lv) => pright W l' lv hi SH.out bb hbb)
          have P2 := Lib.hid (fun W lv (hi : IRow W l' lv) => rright W l' lv hi (fun u hu => (SH.out u hu).1) bb hbb)
          clear hbb
          with_reducible refine (P1.out _ _ W5.out).mono ?_
          rintro e w6 ⟨rfl, hb⟩
          have B6 := Lib.hid (below_tr B5.out hb)
          have W6 := Lib.hid (W5.out.below hb)
          clear hb
          go_wp2_with fail
          with_reducible refine (P2.out _ _ W6.out).mono ?_
          rintro e w7 ⟨rfl, hb⟩
          have B7 := Lib.hid (below_tr B6.out hb)
          clear hb
          go_wp2_with fail
          with_reducible refine (AW.out _).mono ?_
          rintro e w8 ⟨rfl, hb⟩
          have B8 := Lib.hid (below_tr B7.out hb)
          clear hb
          go_wp2_with fail
          go_ret
          exact ⟨rfl, B8.out⟩
        | 2, _, hqi =>
          have hqj : (how : Int) % 7 = 2 := hqi
          clear hqi
          obtain ⟨c0, c1, c2, c3, c4, c5, c6, c7, c8, c9, c10, c11⟩ := AT4.out
          have fz := O4.out.frz (p * 12 + 4)
          clear c0 c1 c2 c3 c5 c6 c7 c8 c9 c10 c11
          have h2 := IOwn.set1 O4.out HX.out (y := ⟨x.name, x.parent, ⟨x.lim.c, x.lim.m, (by' : Int) % 4⟩, x.own, x.sub, x.ver⟩) 4 (by decide) (.int .i64 ((by' : Int) % 4)) rfl
          have O5 := Lib.hid h2.1
          have B5 := Lib.hid (below_grown' (C4'.out) h2.2 (fun k hk => by cases hk; exact GB.out))
          have SH := Lib.hid (SHO.out.set p (y := ⟨x.name, x.parent, ⟨x.lim.c, x.lim.m, (by' : Int) % 4⟩, x.own, x.sub, x.ver⟩) (NMS.out) (PAS.out))
          clear h2
          go_wp2_with fail
          generalize w4.setCell ⟨g, p * 12 + 4, none⟩ (.int .i64 ((by' : Int) % 4)) = w5 at *
          generalize l.set p ⟨x.name, x.parent, ⟨x.lim.c, x.lim.m, (by' : Int) % 4⟩, x.own, x.sub, x.ver⟩ = l' at *
          have W5 := Lib.hid (irow_of_own O5.out)
          obtain ⟨bb, hbb⟩ := bool_of (rightP l')
          have P1 := Lib.hid (fun W lv (hi : IRow W l' lv) => pright W l' lv hi SH.out bb hbb)
          have P2 := Lib.hid (fun W lv (hi : IRow W l' lv) => rright W l' lv hi (fun u hu => (SH.out u hu).1) bb hbb)
          clear hbb
          with_reducible refine (P1.out _ _ W5.out).mono ?_
          rintro e w6 ⟨rfl, hb⟩
          have B6 := Lib.hid (below_tr B5.out hb)
          have W6 := Lib.hid (W5.out.below hb)
          clear hb
          go_wp2_with fail
          with_reducible refine (P2.out _ _ W6.out).mono ?_
          rintro e w7 ⟨rfl, hb⟩
          have B7 := Lib.hid (below_tr B6.out hb)
          clear hb
          go_wp2_with fail
          with_reducible refine (AW.out _).mono ?_
          rintro e w8 ⟨rfl, hb⟩
          have B8 := Lib.hid (below_tr B7.out hb)
          clear hb
          go_wp2_with fail
          go_ret
          exact ⟨rfl, B8.out⟩
        | 3, _, hqi =>
          have hqj : (how : Int) % 7 = 3 := hqi
          clear hqi
          obtain ⟨c0, c1, c2, c3, c4, c5, c6, c7, c8, c9, c10, c11⟩ := AT4.out
          obtain ⟨cd, hcd⟩ : ∃ cd : UInt8, cd = UInt8.ofNat (97 + by' % 26) := ⟨_, rfl⟩
          have hcv := ddig_conv w4 (97 + (by' : Int) % 26) cd (by
              rw [hcd, UInt8.toNat_ofNat']
              rw [show (97 + by' % 26) % 2 ^ 8 = 97 + by' % 26 by omega]
              push_cast
              rfl)
          have wc1 : IntKind.u8.wrap (97 + (by' : Int) % 26) = 97 + (by' : Int) % 26 := by
              rw [IntKind.wrap_u8]; omega
          have CS := Lib.hid (show (⟨#[cd]⟩ : ByteArray).size ≤ 1000000 from by show 1 ≤ 1000000; decide)
          clear hcd
          have c1' := hold (below_al (Below.refl w4.heap.size w4) (.cells #[.int .u8 (97 + (by' : Int) % 26)] 5)) c1
          have fz := IOwn.frz (O4.out.belowI (below_al (Below.refl w4.heap.size w4) (.cells #[.int .u8 (97 + (by' : Int) % 26)] 5))) (p * 12 + 1)
          clear c0 c1 c2 c3 c4 c5 c6 c7 c8 c9 c10 c11
          have h2 := IOwn.set1 (O4.out.belowI (below_al (Below.refl w4.heap.size w4) (.cells #[.int .u8 (97 + (by' : Int) % 26)] 5))) HX.out (y := ⟨x.name, ⟨#[cd]⟩, x.lim, x.own, x.sub, x.ver⟩) 1 (by decide) (.string ⟨#[cd]⟩) rfl
          have O5 := Lib.hid h2.1
          have B5 := Lib.hid (below_grown' (below_al C4'.out (.cells #[.int .u8 (97 + (by' : Int) % 26)] 5)) h2.2 (fun k hk => by cases hk; exact GB.out))
          have SH := Lib.hid (SHO.out.set p (y := ⟨x.name, ⟨#[cd]⟩, x.lim, x.own, x.sub, x.ver⟩) (NMS.out) (CS.out))
          clear h2
          go_wp2_with fail
          generalize (w4.alloc (.cells #[.int .u8 (97 + (by' : Int) % 26)] 5)).setCell ⟨g, p * 12 + 1, none⟩ (.string ⟨#[cd]⟩) = w5 at *
          generalize l.set p ⟨x.name, ⟨#[cd]⟩, x.lim, x.own, x.sub, x.ver⟩ = l' at *
          have W5 := Lib.hid (irow_of_own O5.out)
          obtain ⟨bb, hbb⟩ := bool_of (rightP l')
          have P1 := Lib.hid (fun W lv (hi : IRow W l' lv) => pright W l' lv hi SH.out bb hbb)
          have P2 := Lib.hid (fun W lv (hi : IRow W l' lv) => rright W l' lv hi (fun u hu => (SH.out u hu).1) bb hbb)
          clear hbb
          with_reducible refine (P1.out _ _ W5.out).mono ?_
          rintro e w6 ⟨rfl, hb⟩
          have B6 := Lib.hid (below_tr B5.out hb)
          have W6 := Lib.hid (W5.out.below hb)
          clear hb
          go_wp2_with fail
          with_reducible refine (P2.out _ _ W6.out).mono ?_
          rintro e w7 ⟨rfl, hb⟩
          have B7 := Lib.hid (below_tr B6.out hb)
          clear hb
          go_wp2_with fail
          with_reducible refine (AW.out _).mono ?_
          rintro e w8 ⟨rfl, hb⟩
          have B8 := Lib.hid (below_tr B7.out hb)
          clear hb
          go_wp2_with fail
          go_ret
          exact ⟨rfl, B8.out⟩
        | 4, _, hqi =>
          have hqj : (how : Int) % 7 = 4 := hqi
          clear hqi
          obtain ⟨c0, c1, c2, c3, c4, c5, c6, c7, c8, c9, c10, c11⟩ := AT4.out
          obtain ⟨cd, hcd⟩ : ∃ cd : UInt8, cd = UInt8.ofNat (97 + by' % 26) := ⟨_, rfl⟩
          have hcv := ddig_conv w4 (97 + (by' : Int) % 26) cd (by
              rw [hcd, UInt8.toNat_ofNat']
              rw [show (97 + by' % 26) % 2 ^ 8 = 97 + by' % 26 by omega]
              push_cast
              rfl)
          have wc1 : IntKind.u8.wrap (97 + (by' : Int) % 26) = 97 + (by' : Int) % 26 := by
              rw [IntKind.wrap_u8]; omega
          have CS := Lib.hid (show (⟨#[cd]⟩ : ByteArray).size ≤ 1000000 from by show 1 ≤ 1000000; decide)
          clear hcd
          have c0' := hold (below_al (Below.refl w4.heap.size w4) (.cells #[.int .u8 (97 + (by' : Int) % 26)] 5)) c0
          have fz := IOwn.frz (O4.out.belowI (below_al (Below.refl w4.heap.size w4) (.cells #[.int .u8 (97 + (by' : Int) % 26)] 5))) (p * 12)
          clear c0 c1 c2 c3 c4 c5 c6 c7 c8 c9 c10 c11
          have h2 := IOwn.set1 (O4.out.belowI (below_al (Below.refl w4.heap.size w4) (.cells #[.int .u8 (97 + (by' : Int) % 26)] 5))) HX.out (y := ⟨⟨#[cd]⟩, x.parent, x.lim, x.own, x.sub, x.ver⟩) 0 (by decide) (.string ⟨#[cd]⟩) rfl
          have O5 := Lib.hid h2.1
          have B5 := Lib.hid (below_grown' (below_al C4'.out (.cells #[.int .u8 (97 + (by' : Int) % 26)] 5)) h2.2 (fun k hk => by cases hk; exact GB.out))
          have SH := Lib.hid (SHO.out.set p (y := ⟨⟨#[cd]⟩, x.parent, x.lim, x.own, x.sub, x.ver⟩) (CS.out) (PAS.out))
          clear h2
          go_wp2_with fail
          generalize (w4.alloc (.cells #[.int .u8 (97 + (by' : Int) % 26)] 5)).setCell ⟨g, p * 12, none⟩ (.string ⟨#[cd]⟩) = w5 at *
          generalize l.set p ⟨⟨#[cd]⟩, x.parent, x.lim, x.own, x.sub, x.ver⟩ = l' at *
          have W5 := Lib.hid (irow_of_own O5.out)
          obtain ⟨bb, hbb⟩ := bool_of (rightP l')
          have P1 := Lib.hid (fun W lv (hi : IRow W l' lv) => pright W l' lv hi SH.out bb hbb)
          have P2 := Lib.hid (fun W lv (hi : IRow W l' lv) => rright W l' lv hi (fun u hu => (SH.out u hu).1) bb hbb)
          clear hbb
          with_reducible refine (P1.out _ _ W5.out).mono ?_
          rintro e w6 ⟨rfl, hb⟩
          have B6 := Lib.hid (below_tr B5.out hb)
          have W6 := Lib.hid (W5.out.below hb)
          clear hb
          go_wp2_with fail
          with_reducible refine (P2.out _ _ W6.out).mono ?_
          rintro e w7 ⟨rfl, hb⟩
          have B7 := Lib.hid (below_tr B6.out hb)
          clear hb
          go_wp2_with fail
          with_reducible refine (AW.out _).mono ?_
          rintro e w8 ⟨rfl, hb⟩
          have B8 := Lib.hid (below_tr B7.out hb)
          clear hb
          go_wp2_with fail
          go_ret
          exact ⟨rfl, B8.out⟩
        | 5, _, hqi =>
          have hqj : (how : Int) % 7 = 5 := hqi
          clear hqi
          obtain ⟨c0, c1, c2, c3, c4, c5, c6, c7, c8, c9, c10, c11⟩ := AT4.out
          have fz := O4.out.frz (p * 12 + 11)
          clear c0 c1 c2 c3 c4 c5 c6 c7 c8 c9 c10
          have h2 := IOwn.set1 O4.out HX.out (y := ⟨x.name, x.parent, x.lim, x.own, x.sub, (by' : Int) - 2⟩) 11 (by decide) (.int .i64 ((by' : Int) - 2)) rfl
          have O5 := Lib.hid h2.1
          have B5 := Lib.hid (below_grown' (C4'.out) h2.2 (fun k hk => by cases hk; exact GB.out))
          have SH := Lib.hid (SHO.out.set p (y := ⟨x.name, x.parent, x.lim, x.own, x.sub, (by' : Int) - 2⟩) (NMS.out) (PAS.out))
          clear h2
          go_wp2_with fail
          generalize w4.setCell ⟨g, p * 12 + 11, none⟩ (.int .i64 ((by' : Int) - 2)) = w5 at *
          generalize l.set p ⟨x.name, x.parent, x.lim, x.own, x.sub, (by' : Int) - 2⟩ = l' at *
          have W5 := Lib.hid (irow_of_own O5.out)
          obtain ⟨bb, hbb⟩ := bool_of (rightP l')
          have P1 := Lib.hid (fun W lv (hi : IRow W l' lv) => pright W l' lv hi SH.out bb hbb)
          have P2 := Lib.hid (fun W lv (hi : IRow W l' lv) => rright W l' lv hi (fun u hu => (SH.out u hu).1) bb hbb)
          clear hbb
          with_reducible refine (P1.out _ _ W5.out).mono ?_
          rintro e w6 ⟨rfl, hb⟩
          have B6 := Lib.hid (below_tr B5.out hb)
          have W6 := Lib.hid (W5.out.below hb)
          clear hb
          go_wp2_with fail
          with_reducible refine (P2.out _ _ W6.out).mono ?_
          rintro e w7 ⟨rfl, hb⟩
          have B7 := Lib.hid (below_tr B6.out hb)
          clear hb
          go_wp2_with fail
          with_reducible refine (AW.out _).mono ?_
          rintro e w8 ⟨rfl, hb⟩
          have B8 := Lib.hid (below_tr B7.out hb)
          clear hb
          go_wp2_with fail
          go_ret
          exact ⟨rfl, B8.out⟩
        | 6, _, hqi =>
          have hqj : (how : Int) % 7 = 6 := hqi
          clear hqi
          obtain ⟨c0, c1, c2, c3, c4, c5, c6, c7, c8, c9, c10, c11⟩ := AT4.out
          have fz := O4.out.frz (p * 12 + 1)
          clear c2 c3 c4 c5 c6 c7 c8 c9 c10 c11
          have h2 := IOwn.set1 O4.out HX.out (y := ⟨x.name, x.name, x.lim, x.own, x.sub, x.ver⟩) 1 (by decide) (.string x.name) rfl
          have O5 := Lib.hid h2.1
          have B5 := Lib.hid (below_grown' (C4'.out) h2.2 (fun k hk => by cases hk; exact GB.out))
          have SH := Lib.hid (SHO.out.set p (y := ⟨x.name, x.name, x.lim, x.own, x.sub, x.ver⟩) (NMS.out) (NMS.out))
          clear h2
          go_wp2_with fail
          generalize w4.setCell ⟨g, p * 12 + 1, none⟩ (.string x.name) = w5 at *
          generalize l.set p ⟨x.name, x.name, x.lim, x.own, x.sub, x.ver⟩ = l' at *
          have W5 := Lib.hid (irow_of_own O5.out)
          obtain ⟨bb, hbb⟩ := bool_of (rightP l')
          have P1 := Lib.hid (fun W lv (hi : IRow W l' lv) => pright W l' lv hi SH.out bb hbb)
          have P2 := Lib.hid (fun W lv (hi : IRow W l' lv) => rright W l' lv hi (fun u hu => (SH.out u hu).1) bb hbb)
          clear hbb
          with_reducible refine (P1.out _ _ W5.out).mono ?_
          rintro e w6 ⟨rfl, hb⟩
          have B6 := Lib.hid (below_tr B5.out hb)
          have W6 := Lib.hid (W5.out.below hb)
          clear hb
          go_wp2_with fail
          with_reducible refine (P2.out _ _ W6.out).mono ?_
          rintro e w7 ⟨rfl, hb⟩
          have B7 := Lib.hid (below_tr B6.out hb)
          clear hb
          go_wp2_with fail
          with_reducible refine (AW.out _).mono ?_
          rintro e w8 ⟨rfl, hb⟩
          have B8 := Lib.hid (below_tr B7.out hb)
          clear hb
          go_wp2_with fail
          go_ret
          exact ⟨rfl, B8.out⟩
        | q + 7, h, _ => omega
theorem law_treemadeI (xs : List Int) (nv : Value) (a b c : Nat) (ha : a < 256) (hb : b < 256) (hc : c < 256) (h : NumsRd .u8 w nv xs) (hr : ∀ x ∈ xs, 0 ≤ x ∧ x ≤ 255) (hl : xs.length ≤ maxLen) : Calls Try.prog 4 #[nv, .int .u8 (a : Int), .int .u8 (b : Int), .int .u8 (c : Int)] w (Made (.bool true) w) := by
  obtain ⟨ns, rfl, h2⟩ := nats_of hr
  exact law_treemade w ns nv a b c (by omega) (by omega) (by omega) h h2 (by simpa using hl)
end
end Go.Proofs.Ytjhakingdadfaaa
