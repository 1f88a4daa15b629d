/- The law of room: what many share. -/
import Derived.Test.YtffmmoligdoclaaRmG
import Derived.Test.YtffmmoligdoclaaRmL
namespace Go.Proofs.Ytffmmoligdoclaa
open Go.RowKit
set_option linter.unusedVariables false
set_option linter.unusedSimpArgs false
section
theorem srow_new (W : World) (s : ByteArray) : SRow (W.alloc (.cells #[.string s] 9)) [s] (.slice (some ⟨W.heap.size, 0, none⟩) 1 1) :=
  ⟨some ⟨W.heap.size, 0, none⟩, 1, rfl, fun i u hu => by
    cases i with
    | zero =>
      obtain rfl : s = u := by simpa using hu
      exact ⟨W.heap.size, 0, rfl, news_str W s 0 _ rfl⟩
    | succ i => simp at hu⟩
theorem strs_srcM {w : World} {B n cap : Nat} {ao : Option Addr} {xs : List Value} (h : w.ownsRow B 9 1 (.slice ao n cap) n xs) : (ao = none → n = 0) ∧ ∀ ad, ao = some ad → ∀ j u, xs[j]? = some u → w.cell? (ad.add j) = some u := by
  rcases h.2 with ⟨e, h0⟩ | ⟨g, c, cur, e, _⟩
  · simp only [Value.slice.injEq] at e
    obtain ⟨rfl, -, -⟩ := e
    exact ⟨fun _ => h0, (fun ad h => by cases h)⟩
  · simp only [Value.slice.injEq] at e
    obtain ⟨rfl, -, -⟩ := e
    exact ⟨(fun h => by cases h), fun ad e2 j u hj => by
      cases e2
      exact World.ownsRow.cells (g := g) h rfl j u hj⟩
variable (w : World)
set_option maxHeartbeats 16000000 in
set_option maxRecDepth 100000 in
theorem law_roomshares (OF : OfC) (SH : ShC) (ns : List Nat) (nv : Value) (which : Nat) (hw : which ≤ 255) (h : NumsRd .u8 w nv (ns.map fun n : Nat => (n : Int))) (hr : ∀ x ∈ ns, x ≤ 255) (hmx : ns.length ≤ maxLen) : Calls Try.prog 6 #[nv, .int .u8 (which : Int)] w (Made (.bool true) w) := by
  have AW := Lib.hid (fun W => law_awake13 W OF)
  have HN := Lib.hid h
  have HRR := Lib.hid hr
  obtain ⟨ao, cap, rfl, hat⟩ := h
  simp only [List.length_map] at HN ⊢
  have SHH := Lib.hid SH
  clear hat hr OF SH
  unfold maxLen at hmx
  by_cases hbig : 90 < ns.length
  · have y0 : (90 : Int) < (ns.length : Int) := by omega
    go_enter Try.func6, Try.ntmps6
    go_wp2_with fail
    with_reducible refine (AW.out _).mono ?_
    rintro e w2 ⟨rfl, hb⟩
    have B2 := Lib.hid (hb)
    clear hb
    go_wp2_with fail
    go_ret
    exact ⟨rfl, B2.out⟩
  · have y0 : (ns.length : Int) ≤ 90 := by omega
    have MK := Lib.hid (lmakeT w ns (.slice ao ns.length cap) HN.out HRR.out (by omega))
    have MR := Lib.hid (make_right ns [] RT.nil (Nat.zero_le _))
    have MO := Lib.hid (make_one ns [] (fun x hx => by cases hx))
    generalize makeT ns [] = l at *
    have RR := Lib.hid MR.out.1
    have hl24 : l.length ≤ 24 := MR.out.2
    obtain ⟨i0, hi0, hz0, hz1, hz2⟩ := info_partsT info_str
    go_enter Try.func6, Try.ntmps6
    go_wp2_with fail
    with_reducible refine MK.out.mono ?_
    rintro e w1 ⟨lv, rfl, hb1, ho1⟩
    have B1 := Lib.hid hb1
    have W1 := Lib.hid (irow_of_own ho1)
    obtain ⟨lo, lc, rfl⟩ := W1.out.shape
    clear hb1 ho1
    have wL : IntKind.i64.wrap ((l.length : Int) - 1) = (l.length : Int) - 1 := by rw [IntKind.wrap_i64]; omega
    go_wp2_with fail
    have BT := Lib.hid (below_al (Below.refl w1.heap.size w1) (.cells #[.int .i64 0, .int .i64 0, .int .i64 0] 27))
    have S0 := Lib.hid (CBlk.new w1 z3)
    have OM := Lib.hid (show ∀ y ∈ l.reverse, mayV y.own = true from fun y hy => (one_iff.1 (RR.out.one y (List.mem_reverse.1 hy))).2.2.1)
    have SZ1 := Lib.hid B1.out.size
    have SHW := Lib.hid (fun W (hW : Below w1.heap.size w1 W) ss tv (hT : SRow W ss tv) => SHH.out W l (.slice lo l.length lc) ss tv (W1.out.below hW) RR.out hT)
    simp only [z3] at S0
    generalize hbo : w1.heap.size = bo at *
    generalize w1.alloc (.cells #[.int .i64 0, .int .i64 0, .int .i64 0] 27) = w3 at *
    have HBO := Lib.hid hbo
    clear hbo
    go_loopg [6, 8] l.length (fun m ov iv wr => ∃ k : Nat, iv = .int .i64 ((l.length : Int) - 1 - (k : Int)) ∧ l.length - k ≤ m ∧ k ≤ l.length ∧ Below bo w1 wr ∧ CBlk wr bo (sumF (fun x => x.own) (l.reverse.take k)) ∧ StrsO wr (bo + 1) ov ((l.reverse.take k).map (·.name)))
    case atStart => exact ⟨0, by simp, Nat.le_refl _, Nat.zero_le _, BT.out, S0.out, (own_none _ _ _ _ : World.ownsRow _ _ _ _ _ _ _)⟩
    case round =>
      obtain ⟨k, rfl, hm, hk, hb, hc, ho⟩ := hrel
      have HM := Lib.hid hm
      have BR := Lib.hid hb
      have CO := Lib.hid hc
      have OO := Lib.hid ho
      obtain ⟨oo, oc, rfl⟩ := ho.shape
      clear hm hb hc ho
      have BRW := Lib.hid (show Below w1.heap.size w1 wr from by rw [HBO.out]; exact BR.out)
      have LR : l.reverse.length = l.length := List.length_reverse
      by_cases hlt : k < l.length
      · obtain ⟨i, hi⟩ : ∃ i, i + k + 1 = l.length := ⟨l.length - k - 1, by omega⟩
        obtain ⟨x, hx⟩ : ∃ x, l[i]? = some x := ⟨_, List.getElem?_eq_getElem (by omega)⟩
        have hxr : l.reverse[k]? = some x := by
          have := rev_at hx
          rwa [show l.length - 1 - i = k by omega] at this
        have HX := Lib.hid hx
        have xm := List.mem_of_getElem? hx
        have EI : (l.length : Int) - 1 - (k : Int) = (i : Int) := by omega
        rw [EI]
        obtain ⟨_, _, e9, _, _, h9⟩ := W1.out.below BRW.out
        simp only [Value.slice.injEq, true_and] at e9
        obtain ⟨rfl, rfl⟩ := e9
        obtain ⟨gl, ol, rfl, hc8⟩ := h9 i x hx
        have AT := Lib.hid hc8
        have glt : gl < bo := by
          obtain ⟨_, _, e9, _, _, h9⟩ := W1.out
          simp only [Value.slice.injEq, true_and] at e9
          obtain ⟨rfl, rfl⟩ := e9
          obtain ⟨_, _, e10, h10⟩ := h9 i x HX.out
          cases e10
          have := World.block_lt_of_cell? _ _ h10.c0
          rwa [HBO.out] at this
        have XAT := Lib.hid (show ∀ V, Below bo wr V → I12At V gl (ol + i * 12) x from fun V hV => by
          obtain ⟨_, _, e8, _, _, h8⟩ := W1.out.below (show Below w1.heap.size w1 V from by rw [HBO.out]; exact BR.out.trans hV)
          simp only [Value.slice.injEq, true_and] at e8
          obtain ⟨rfl, rfl⟩ := e8
          obtain ⟨_, _, e10, h10⟩ := h8 i x HX.out
          cases e10
          exact h10)
        have y1 : (0 : Int) ≤ (i : Int) := by omega
        have y2 : (i : Int) < (l.length : Int) := by omega
        have ES := Lib.hid (sumF_step (f := fun x => x.own) hxr)
        have US := Lib.hid (sumF_up OM.out k (by omega))
        have XO := Lib.hid (may_bounds ((one_iff.1 (RR.out.one x xm)).2.2.1))
        have NS := Lib.hid (show ((l.reverse.take (k + 1)).map (·.name)) = ((l.reverse.take k).map (·.name)) ++ [x.name] from by
          rw [List.take_add_one, hxr]
          simp only [Option.toList_some, List.map_append, List.map_cons, List.map_nil])
        have LN := Lib.hid (show ((l.reverse.take k).map (·.name)).length ≤ 1000 from by rw [List.length_map, List.length_take]; omega)
        obtain ⟨s0, hs0⟩ : ∃ s0, s0 = sumF (fun x => x.own) (l.reverse.take k) := ⟨_, rfl⟩
        rw [← hs0] at ES US CO
        have AD := Lib.hid (fun W => radd2_any W s0 x.own (by
          have := US.out; have := XO.out
          unfold V3.Upto at *; unfold V3.I addV; simp only; omega))
        obtain ⟨s1, hs1⟩ : ∃ s1, s1 = addV s0 x.own := ⟨_, rfl⟩
        simp only [← hs1] at AD ES
        generalize (l.reverse.take k).map (·.name) = out at *
        have W1i : IntKind.i64.wrap ((i : Int) - 1) = (i : Int) - 1 := by rw [IntKind.wrap_i64]; omega
        have HI := Lib.hid hi
        have BA := Lib.hid (below_al (Below.refl wr.heap.size wr) (.cells #[.string x.name] 9))
        have O1 := Lib.hid (show (wr.alloc (.cells #[.string x.name] 9)).ownsRow (bo + 1) 9 1 (.slice oo out.length oc) out.length (strC out) from World.ownsRow.alloc OO.out _)
        have NW := Lib.hid (news_str wr x.name)
        have LOW := Lib.hid (show ∀ q, (Value.slice oo out.length oc).ownBlock = some q → bo + 1 ≤ q from fun q hq => (World.ownsRow.lt OO.out q hq).1)
        have LT := Lib.hid CO.out.lt
        have SZA := Lib.hid (show bo + 1 ≤ (wr.alloc (.cells #[.string x.name] 9)).heap.size from Nat.le_trans LT.out BA.out.size)
        obtain ⟨k0, k1, k2, k3, k4, k5, k6, k7, k8, k9, k10, k11⟩ := AT.out
        clear hx hxr h9 hc8 hs0 hs1 US XO EI hi LR
        go_wp2_with (first
          | (at_builtin; refine wpList_append_lies _ rfl _ _ 23 rfl (bo + 1) 9 i0 (.string ⟨#[]⟩) 1 16 Try.underlying23 hi0 hz0 hz1 hz2 rfl (by decide) (.slice oo out.length oc) out.length (strC out) rfl O1.out ⟨wr.heap.size, 0, none⟩ 1 1 [.string x.name] rfl rfl NW.out (by simp [Value.oneCell']) (by decide) (by have := LN.out; unfold maxLen; omega) (by have := LN.out; omega) SZA.out _ rfl ?_; intro gg cp w6 hown6 hgrow6 hat6 hlt6))
        have B1a := Lib.hid (Below.grown (Below.refl (bo + 1) (wr.alloc (.cells #[.string x.name] 9))) hgrow6 SZA.out LOW.out)
        have B6 := Lib.hid (Below.trans (BA.out.mono LT.out) B1a.out)
        have C6 := Lib.hid (show CBlk w6 bo s0 from (B6.out.block bo (Nat.lt_succ_self _)).trans CO.out)
        have O6 := Lib.hid (show StrsO w6 (bo + 1) (.slice (some ⟨gg, 0, none⟩) (out.length + 1) cp) ((l.reverse.take (k + 1)).map (·.name)) from by
          rw [NS.out]
          unfold StrsO
          rw [List.length_append, strC_app]; exact hown6)
        have B6o := Lib.hid (B6.out.mono (Nat.le_succ bo))
        have B60 := Lib.hid (BR.out.trans B6o.out)
        clear hown6 hgrow6 hat6 hlt6 k0 k1 k2 k3 k4 k5 k6 k7 k8 k9 k10 k11
        obtain ⟨k0, k1, k2, k3, k4, k5, k6, k7, k8, k9, k10, k11⟩ := XAT.out w6 B6o.out
        obtain ⟨t0, t1, t2, tl⟩ := C6.out.cells
        go_wp2_with fail
        refine wp_region_mono_tail 7 (by kernel_rfl) (by kernel_rfl) (Nat.le_of_ble_eq_true (by kernel_rfl)) (by kernel_rfl) ?_
        simp only [List.map_cons, List.map_nil]
        simp only [List.take_succ_cons, List.take_zero, List.drop_succ_cons, List.drop_zero]
        repeat (first
          | (apply wpM_is
             · (intro us W hW hg K hK
                clear hg
                have d0 := hold hW t0
                have d1 := hold hW t1
                have d2 := hold hW t2
                have d3 := hold hW k5
                have d4 := hold hW k6
                have d5 := hold hW k7
                simp only [fillA]
                go_simp
                first
                | exact hK _ (Below.refl _ _)
                | ((with_reducible refine (AD.out _).mono ?_); rintro e w' ⟨rfl, hb⟩; exact hK _ hb))
             simp only [setD, List.set_cons_zero, List.set_cons_succ]))
        intro us W hW hg
        simp only [fillA]
        clear hg
        have BW := Lib.hid (show Below bo w1 W from B60.out.trans (hW.mono (Nat.le_of_lt C6.out.lt)))
        have TW := Lib.hid (C6.out.below hW)
        have OW := Lib.hid (show StrsO W (bo + 1) (.slice (some ⟨gg, 0, none⟩) (out.length + 1) cp) ((l.reverse.take (k + 1)).map (·.name)) from O6.out.below hW)
        obtain ⟨e0, e1, e2, el⟩ := TW.out.cells
        have f0 := TW.out.free 0
        have f1 := TW.out.free 1
        have f2 := TW.out.free 2
        clear hW t0 t1 t2 tl k0 k1 k2 k3 k4 k5 k6 k7 k8 k9 k10 k11
        obtain ⟨W', hW'⟩ : ∃ W', W' = ((W.setCell ⟨bo, 0, none⟩ (.int .i64 s1.c)).setCell ⟨bo, 1, none⟩ (.int .i64 s1.m)).setCell ⟨bo, 2, none⟩ (.int .i64 s1.p) := ⟨_, rfl⟩
        have BX := Lib.hid (show Below bo w1 W' from by rw [hW']; exact below_set3 BW.out (Nat.le_refl _) _ _ _)
        have TX := Lib.hid (show CBlk W' bo s1 from by rw [hW']; exact TW.out.set s1)
        have OX := Lib.hid (show StrsO W' (bo + 1) (.slice (some ⟨gg, 0, none⟩) (out.length + 1) cp) ((l.reverse.take (k + 1)).map (·.name)) from by
          rw [hW']
          exact ownsRow_setCell_below (ownsRow_setCell_below (ownsRow_setCell_below OW.out (Nat.lt_succ_self _) _) (Nat.lt_succ_self _) _) (Nat.lt_succ_self _) _)
        go_upto_region 8 with fail
        rw [← hW']
        clear hW' e0 e1 e2 el f0 f1 f2
        go_wp2_with fail
        go_roundg (l.length - (k + 1))
        case rel => exact ⟨k + 1, by congr 1; have := HI.out; omega, Nat.le_refl _, hlt, BX.out, by rw [ES.out]; exact TX.out, OX.out⟩
        case measure => have := HM.out; omega
      · obtain rfl : k = l.length := by omega
        have EN : (l.length : Int) - 1 - (l.length : Int) = -1 := by omega
        rw [EN]
        have AE := Lib.hid (show sumF (fun x => x.own) (l.reverse.take l.length) = sumF (fun x => x.own) l from by rw [List.take_of_length_le (by omega), sumF_rev])
        rw [AE.out] at CO
        have AIN := Lib.hid (share_all RR.out (ns := (l.reverse.take l.length).map (·.name)) (fun x hx => by
          rw [List.take_of_length_le (by omega)]
          exact List.mem_map_of_mem (List.mem_reverse.2 hx)))
        rw [List.take_of_length_le (show l.reverse.length ≤ l.length by omega)] at OO AIN ⊢
        clear EN AE LR BT S0 SZ1 OM
        have BR1 := Lib.hid (show Below w1.heap.size w1 wr from by rw [HBO.out]; exact BR.out)
        have LNA := Lib.hid (show (l.reverse.map (·.name)).length ≤ 1000 from by rw [List.length_map, List.length_reverse]; omega)
        have SZA := Lib.hid (show ∀ s ∈ l.reverse.map (·.name), s.size ≤ maxLen from fun s hs => by
          obtain ⟨x, hx, rfl⟩ := List.mem_map.1 hs
          have := (RR.out.short x (List.mem_reverse.1 hx)).1
          unfold maxLen; omega)
        have RA := Lib.hid (srow_of OO.out)
        have SA := Lib.hid (fun W (hW : Below wr.heap.size wr W) => SHW.out W (BR.out.trans (hW.mono (Nat.le_of_lt CO.out.lt))) _ _ (RA.out.below hW) LNA.out SZA.out)
        rw [AIN.out] at SA
        have SN := Lib.hid (fun W (hW : Below wr.heap.size wr W) => SHW.out W (BR.out.trans (hW.mono (Nat.le_of_lt CO.out.lt))) [] (.slice none 0 0) ⟨none, 0, rfl, fun i s hs => by simp at hs⟩ (Nat.zero_le _) (fun s hs => by cases hs))
        rw [share_nil] at SN
        have SO := Lib.hid (fun W (hW : Below wr.heap.size wr W) tv (hT : SRow W [⟨#[110, 111, 110, 101]⟩] tv) => SHW.out W (BR.out.trans (hW.mono (Nat.le_of_lt CO.out.lt))) [⟨#[110, 111, 110, 101]⟩] tv hT (by decide) (fun s hs => by
          rw [List.mem_singleton] at hs; subst hs; decide))
        rw [share_noname MO.out (by decide)] at SO
        simp only [z3] at SN SO
        generalize l.reverse.map (·.name) = out at *
        obtain ⟨S, hS⟩ : ∃ S, S = sumF (fun x => x.own) l := ⟨_, rfl⟩
        rw [← hS] at SA CO
        clear hS
        obtain ⟨t0, t1, t2, tl⟩ := CO.out.cells
        go_wp2_with fail
        refine wp_region_mono (by kernel_rfl) (by kernel_rfl) ?_
        simp only [List.map_cons, List.map_nil, List.append_eq, List.cons_append, List.nil_append]
        repeat (first
          | (apply wpM_is
             · (intro us W hW hg K hK
                clear hg
                have d0 := hold hW t0
                have d1 := hold hW t1
                have d2 := hold hW t2
                simp only [fillA]
                go_simp
                first
                | exact hK _ (Below.refl _ _)
                | ((with_reducible refine (SA.out _ hW).mono ?_); rintro e w' ⟨rfl, hb⟩; exact hK _ hb)
                | ((with_reducible refine (SN.out _ hW).mono ?_); rintro e w' ⟨rfl, hb⟩; exact hK _ hb))
             simp only [setD, List.set_cons_zero, List.set_cons_succ]))
        refine wpM_any (fun v W => SRow W [⟨#[110, 111, 110, 101]⟩] v) (fun v W W' h hb => h.below hb) ?_ ?_
        · intro us W hW hg K hK
          clear hg
          simp only [fillA]
          go_simp
          exact hK _ _ (srow_new W _) (below_al (Below.refl _ _) _)
        simp only [setD, List.set_cons_zero, List.set_cons_succ]
        apply wpM_is
        · intro us W hW hg K hK
          have h0 := hg 52 (List.elem_iff.1 (by kernel_rfl)) _ rfl
          clear hg
          simp only [fillA]
          go_simp
          (with_reducible refine (SO.out _ hW _ h0).mono ?_)
          rintro e w' ⟨rfl, hb⟩
          exact hK _ hb
        simp only [setD, List.set_cons_zero, List.set_cons_succ]
        repeat (first
          | (apply wpM_is
             · (intro us W hW hg K hK
                clear hg
                have d0 := hold hW t0
                have d1 := hold hW t1
                have d2 := hold hW t2
                simp only [fillA]
                go_simp
                first
                | exact hK _ (Below.refl _ _)
                | ((with_reducible refine (SA.out _ hW).mono ?_); rintro e w' ⟨rfl, hb⟩; exact hK _ hb)
                | ((with_reducible refine (SN.out _ hW).mono ?_); rintro e w' ⟨rfl, hb⟩; exact hK _ hb))
             simp only [setD, List.set_cons_zero, List.set_cons_succ]))
        intro us W hW hg
        simp only [fillA]
        clear hg t0 t1 t2 tl
        have BW := Lib.hid (show Below bo w1 W from BR.out.trans (hW.mono (Nat.le_of_lt CO.out.lt)))
        have CW := Lib.hid (BRW.out)
        clear hW
        have BWW := Lib.hid (show Below w1.heap.size w1 W from by rw [HBO.out]; exact BW.out)
        by_cases hl0 : l.length = 0
        · rw [hl0]
          go_wp2_with fail
          with_reducible refine (AW.out _).mono ?_
          rintro e w5 ⟨rfl, hb⟩
          have B5 := Lib.hid (below_tr B1.out (below_tr BWW.out hb))
          clear hb
          go_wp2_with fail
          go_ret
          exact ⟨rfl, B5.out⟩
        · have lpos : 0 < l.length := by omega
          obtain ⟨p, hp⟩ : ∃ p, p = which % l.length := ⟨_, rfl⟩
          have pl : p < l.length := by rw [hp]; exact Nat.mod_lt _ lpos
          have hpi : (which : Int) % (l.length : Int) = (p : Int) := by rw [hp]; push_cast; rfl
          obtain ⟨x, hx⟩ : ∃ x, l[p]? = some x := ⟨_, List.getElem?_eq_getElem pl⟩
          have HX := Lib.hid hx
          have xm := List.mem_of_getElem? hx
          have WL := Lib.hid (W1.out.below BWW.out)
          obtain ⟨_, _, e8, -, -, hat8⟩ := W1.out.below BWW.out
          simp only [Value.slice.injEq, true_and] at e8
          obtain ⟨rfl, rfl⟩ := e8
          obtain ⟨gl, ol, rfl, hc8⟩ := hat8 p x hx
          obtain ⟨k0, k1, k2, k3, k4, k5, k6, k7, k8, k9, k10, k11⟩ := hc8
          have nz : ((l.length : Int) == 0) = false := beq_false_of_ne (by omega)
          have z0 : (0 : Int) ≤ (p : Int) := by omega
          have z1 : (p : Int) < (l.length : Int) := by omega
          have z2 : (l.length : Int) ≠ 0 := by omega
          have nsz := (RR.out.short x xm).1
          have NSZ := Lib.hid (show x.name.size ≤ maxLen by unfold maxLen; omega)
          have SW := Lib.hid (share_with RR.out hx)
          have RB := Lib.hid (fun V (hV : Below W.heap.size W V) => rbelow V l _ (WL.out.below hV) (by omega) x.name)
          have BL := Lib.hid (show (belowI l x.name).length ≤ 24 from by
            unfold belowI; rw [List.length_map]
            have := List.length_filter_le (fun y => decide (y.parent = x.name)) l
            omega)
          have BS := Lib.hid (show ∀ s ∈ belowI l x.name, s.size ≤ maxLen from fun s hs => by
            unfold belowI at hs
            obtain ⟨y, hy, rfl⟩ := List.mem_map.1 hs
            have := (RR.out.short y (List.mem_filter.1 hy).1).1
            unfold maxLen; omega)
          have CWX := Lib.hid (IBlk.new W x)
          clear hp hx xm hat8 nsz
          generalize belowI l x.name = bl at *
          go_wp2_with fail
          have VB := Lib.hid (below_al (below_al (Below.refl W.heap.size W) (.cells #[.string x.name, .string x.parent, .int .i64 x.lim.c, .int .i64 x.lim.m, .int .i64 x.lim.p, .int .i64 x.own.c, .int .i64 x.own.m, .int .i64 x.own.p, .int .i64 x.sub.c, .int .i64 x.sub.m, .int .i64 x.sub.p, .int .i64 x.ver] 40)) (.cells #[] 9))
          have E0 := Lib.hid (show ((W.alloc (.cells #[.string x.name, .string x.parent, .int .i64 x.lim.c, .int .i64 x.lim.m, .int .i64 x.lim.p, .int .i64 x.own.c, .int .i64 x.own.m, .int .i64 x.own.p, .int .i64 x.sub.c, .int .i64 x.sub.m, .int .i64 x.sub.p, .int .i64 x.ver] 40)).alloc (.cells #[] 9)).ownsRow (W.heap.size + 1) 9 1 (.slice (some ⟨W.heap.size + 1, 0, none⟩) 0 0) 0 [] from ⟨by simp, .inr ⟨W.heap.size + 1, 0, #[], rfl, Nat.le_refl _, heap_at (by simp), Nat.le_refl _, Nat.zero_le _, by simp, by simp⟩⟩)
          have C0 := Lib.hid (show IBlk ((W.alloc (.cells #[.string x.name, .string x.parent, .int .i64 x.lim.c, .int .i64 x.lim.m, .int .i64 x.lim.p, .int .i64 x.own.c, .int .i64 x.own.m, .int .i64 x.own.p, .int .i64 x.sub.c, .int .i64 x.sub.m, .int .i64 x.sub.p, .int .i64 x.ver] 40)).alloc (.cells #[] 9)) W.heap.size x from ((below_al (Below.refl _ (W.alloc (.cells #[.string x.name, .string x.parent, .int .i64 x.lim.c, .int .i64 x.lim.m, .int .i64 x.lim.p, .int .i64 x.own.c, .int .i64 x.own.m, .int .i64 x.own.p, .int .i64 x.sub.c, .int .i64 x.sub.m, .int .i64 x.sub.p, .int .i64 x.ver] 40))) _).block _ (by simp)).trans CWX.out)
          have SZ := Lib.hid (show W.heap.size + 1 ≤ ((W.alloc (.cells #[.string x.name, .string x.parent, .int .i64 x.lim.c, .int .i64 x.lim.m, .int .i64 x.lim.p, .int .i64 x.own.c, .int .i64 x.own.m, .int .i64 x.own.p, .int .i64 x.sub.c, .int .i64 x.sub.m, .int .i64 x.sub.p, .int .i64 x.ver] 40)).alloc (.cells #[] 9)).heap.size by simp)
          clear k0 k1 k2 k3 k4 k5 k6 k7 k8 k9 k10 k11 hpi nz z0 z1 z2
          generalize (W.alloc (.cells #[.string x.name, .string x.parent, .int .i64 x.lim.c, .int .i64 x.lim.m, .int .i64 x.lim.p, .int .i64 x.own.c, .int .i64 x.own.m, .int .i64 x.own.p, .int .i64 x.sub.c, .int .i64 x.sub.m, .int .i64 x.sub.p, .int .i64 x.ver] 40)).alloc (.cells #[] 9) = W2 at *
          with_reducible refine (RB.out _ VB.out).mono ?_
          rintro e w3 ⟨v3, rfl, hb, ho⟩
          have V3 := Lib.hid (below_tr VB.out hb)
          have E3 := Lib.hid (own_below E0.out hb)
          have C3 := Lib.hid (show IBlk w3 W.heap.size x from (hb.block _ SZ.out).trans C0.out)
          have Z3 := Lib.hid (Nat.le_trans SZ.out hb.size)
          obtain ⟨bo3, bc3, rfl⟩ := ho.shape
          obtain ⟨S1, S2⟩ := strs_srcM ho
          have s1 := Lib.hid S1
          have s2 := Lib.hid S2
          have bl24 := BL.out
          clear S1 S2 hb ho
          go_upto_region 17 with (first
            | (at_builtin; refine wpList_append_any _ rfl _ _ 23 rfl (W.heap.size + 1) 9 i0 _ 1 16 Try.underlying23 hi0 hz0 hz1 hz2 rfl (by decide) (.slice (some ⟨W.heap.size + 1, 0, none⟩) 0 0) 0 [] rfl E3.out bo3 bl.length bc3 (strC bl) rfl (by simp [strC]) s1.out s2.out (strC_one _) (by unfold maxLen; omega) (by omega) Z3.out ?_; intro v4 w4 hown4 hg4))
          have B4 := Lib.hid (Below.grown (Below.refl (W.heap.size + 1) w3) hg4 Z3.out (fun q hq => (World.ownsRow.lt E3.out q hq).1))
          have O4 := Lib.hid (show StrsO w4 (W.heap.size + 1) v4 bl from by
            unfold StrsO
            have := hown4
            rw [Nat.zero_add, List.nil_append] at this
            exact this)
          have C4 := Lib.hid (show IBlk w4 W.heap.size x from (B4.out.block _ (Nat.lt_succ_self _)).trans C3.out)
          have V4 := Lib.hid (V3.out.trans (B4.out.mono (Nat.le_succ _)))
          have Z4 := Lib.hid (Nat.le_trans Z3.out B4.out.size)
          obtain ⟨bo4, bc4, rfl⟩ := O4.out.shape
          clear hown4 hg4 E3 E0 C3 C0 s1 s2
          obtain ⟨u0, u1, u2, u3, u4, u5, u6, u7, u8, u9, u10, u11⟩ := C4.out.cells
          simp only [Nat.zero_add] at u0 u1 u2 u3 u4 u5 u6 u7 u8 u9 u10 u11
          have BA := Lib.hid (below_al (Below.refl w4.heap.size w4) (.cells #[.string x.name, .string x.name] 9))
          have O5 := Lib.hid (show (w4.alloc (.cells #[.string x.name, .string x.name] 9)).ownsRow (W.heap.size + 1) 9 1 (.slice bo4 bl.length bc4) bl.length (strC bl) from World.ownsRow.alloc O4.out _)
          have NW := Lib.hid (show ∀ j u, ([.string x.name, .string x.name] : List Value)[j]? = some u → (w4.alloc (.cells #[.string x.name, .string x.name] 9)).cell? ((⟨w4.heap.size, 0, none⟩ : Addr).add j) = some u from fun j u h => news_new w4 #[.string x.name, .string x.name] 9 j u h)
          have Z5 := Lib.hid (Nat.le_trans Z4.out BA.out.size)
          go_upto_region 18 with (first
            | (at_builtin; refine wpList_append_lies _ rfl _ _ 23 rfl (W.heap.size + 1) 9 i0 (.string ⟨#[]⟩) 1 16 Try.underlying23 hi0 hz0 hz1 hz2 rfl (by decide) (.slice bo4 bl.length bc4) bl.length (strC bl) rfl O5.out ⟨w4.heap.size, 0, none⟩ 2 2 [.string x.name, .string x.name] rfl rfl NW.out (by simp [Value.oneCell']) (by decide) (by have := BL.out; unfold maxLen; omega) (by have := BL.out; omega) Z5.out _ rfl ?_; intro gg cp w6 hown6 hgrow6 hat6 hlt6))
          have B6a := Lib.hid (Below.grown (Below.refl (W.heap.size + 1) (w4.alloc (.cells #[.string x.name, .string x.name] 9))) hgrow6 Z5.out (fun q hq => (World.ownsRow.lt O5.out q hq).1))
          have B6 := Lib.hid (Below.trans (BA.out.mono Z4.out) B6a.out)
          have O6 := Lib.hid (show StrsO w6 (W.heap.size + 1) (.slice (some ⟨gg, 0, none⟩) (bl ++ [x.name, x.name]).length cp) (bl ++ [x.name, x.name]) from by
            unfold StrsO
            rw [List.length_append, strC_app]; exact hown6)
          have C6 := Lib.hid (show IBlk w6 W.heap.size x from (B6.out.block _ (Nat.lt_succ_self _)).trans C4.out)
          have V6 := Lib.hid (V4.out.trans (B6.out.mono (Nat.le_succ _)))
          clear hown6 hgrow6 hat6 hlt6 u0 u1 u2 u3 u4 u5 u6 u7 u8 u9 u10 u11
          obtain ⟨u0, u1, u2, u3, u4, u5, u6, u7, u8, u9, u10, u11⟩ := C6.out.cells
          simp only [Nat.zero_add] at u0 u1 u2 u3 u4 u5 u6 u7 u8 u9 u10 u11
          have SX := Lib.hid (fun V (hV : Below w6.heap.size w6 V) => SHW.out V ((show Below bo w1 W from BW.out).trans ((V6.out.mono (by rw [← HBO.out]; exact BWW.out.size)).trans (hV.mono (by
            have h1 := BWW.out.size
            have h2 := V6.out.size
            rw [HBO.out] at h1; omega)))) _ _ (srow_of (O6.out.below hV)) (by rw [List.length_append]; have := BL.out; simp only [List.length_cons, List.length_nil]; omega) (fun s hs => by
              rcases List.mem_append.1 hs with h | h
              · exact BS.out s h
              · simp only [List.mem_cons, List.not_mem_nil, or_false, or_self] at h
                rw [h]; exact NSZ.out))
          rw [SW.out] at SX
          rw [List.length_append] at SX
          simp only [List.length_cons, List.length_nil] at SX
          go_wp2_with fail
          refine wp_region_mono (by kernel_rfl) (by kernel_rfl) ?_
          simp only [List.map_cons, List.map_nil, List.append_eq, List.cons_append, List.nil_append]
          repeat (first
            | (apply wpM_is
               · (intro us W hW hg K hK
                  clear hg
                  have d0 := hold hW u8
                  have d1 := hold hW u9
                  have d2 := hold hW u10
                  simp only [fillA]
                  go_simp
                  first
                  | exact hK _ (Below.refl _ _)
                  | ((with_reducible refine (SX.out _ hW).mono ?_); rintro e w' ⟨rfl, hb⟩; exact hK _ hb)
                  | ((with_reducible refine (AW.out _).mono ?_); rintro e w' ⟨rfl, hb⟩; exact hK _ hb))
               simp only [setD, List.set_cons_zero, List.set_cons_succ]))
          intro us7 W7 hW7 hg
          simp only [fillA]
          clear hg
          have BF := Lib.hid (show Below w.heap.size w W7 from below_tr B1.out (below_tr BWW.out (below_tr V6.out hW7)))
          clear hW7
          go_wp2_with fail
          go_ret
          exact ⟨rfl, BF.out⟩
end
end Go.Proofs.Ytffmmoligdoclaa
