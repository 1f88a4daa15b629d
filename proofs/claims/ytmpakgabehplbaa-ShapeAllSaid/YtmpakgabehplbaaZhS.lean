/- Package shape: turn. -/
import Derived.Test.YtmpakgabehplbaaZhP
namespace Go.Proofs.Ytmpakgabehplbaa
open Go.RowKit
set_option linter.unusedVariables false
set_option linter.unusedSimpArgs false
theorem sub_neg (a b : V3) : subV a b = addV a (negV b) := by apply v3_eq <;> simp only [subV, addV, negV] <;> omega
/-- What lies in memory while a move is carried out: W0 is the world ahead of all, w that ahead of the call. -/
structure TuAt (W0 w wr : World) (L : List I12) (g cap n k bm : Nat) (fv tv : Value) (F T : List Nat) : Prop where
  below : Below W0.heap.size W0 wr
  own : IOwn wr W0.heap.size L (.slice (some ⟨g, 0, none⟩) n cap)
  mv : MvB wr bm (.slice (some ⟨g, 0, none⟩) n cap) (.int .i64 (k : Int)) fv tv
  fr : NatO wr W0.heap.size fv F
  ta : NatO wr W0.heap.size tv T
  size : w.heap.size ≤ wr.heap.size
  old : ∀ q, q < w.heap.size → q ≠ g → wr.heap[q]? = w.heap[q]?
theorem TuAt.next {W0 w wr W : World} {L : List I12} {g cap n k bm : Nat} {fv tv : Value} {F T : List Nat} (M : TuAt W0 w wr L g cap n k bm fv tv F T) (hb : Below wr.heap.size wr W) : TuAt W0 w W L g cap n k bm fv tv F T :=
  ⟨below_tr M.below hb, own_below M.own hb, M.mv.below hb, NatO.below M.fr hb, NatO.below M.ta hb, Nat.le_trans M.size hb.size, fun q hq hn => (hb.block q (Nat.lt_of_lt_of_le hq M.size)).trans (M.old q hq hn)⟩
theorem mv_apart {w : World} {B g n cap f : Nat} {l : List I12} {a b c d : Value} (h : IOwn w B l (.slice (some ⟨g, 0, none⟩) n cap)) (hs : MvB w f a b c d) : f ≠ g := by
  rintro rfl
  obtain ⟨-, cur, hg⟩ := iblk_at h
  unfold MvB at hs
  rw [hs] at hg
  simp only [Option.some.injEq, Obj.cells.injEq] at hg
  exact absurd hg.2.1 (by decide)
theorem nat_off {w : World} {B B' g n cap : Nat} {l : List I12} {v : Value} {xs : List Nat} (h : IOwn w B l (.slice (some ⟨g, 0, none⟩) n cap)) (hs : NatO w B' v xs) : v.ownBlock ≠ some g := by
  obtain ⟨-, cur, hg⟩ := iblk_at h
  exact row_off hs hg (by decide)
theorem TuAt.set3 {W0 w W : World} {L : List I12} {g cap n k bm : Nat} {fv tv : Value} {F T : List Nat} (M : TuAt W0 w W L g cap n k bm fv tv F T) {j : Nat} {x y : I12} (hk : L[j]? = some x) (r : Nat) (hr : r + 2 < 12) (a b c : Value) (hy : y.cells = ((x.cells.set r a).set (r + 1) b).set (r + 2) c) :
    TuAt W0 w (((W.setCell ⟨g, j * 12 + r, none⟩ a).setCell ⟨g, j * 12 + r + 1, none⟩ b).setCell ⟨g, j * 12 + r + 2, none⟩ c) (L.set j y) g cap n k bm fv tv F T := by
  have lb := (iblk_at M.own).1
  have ng := mv_apart M.own M.mv
  have nf := nat_off M.own M.fr
  have nt := nat_off M.own M.ta
  exact ⟨((M.below.setCell lb _).setCell lb _).setCell lb _, M.own.set3 hk r hr a b c hy, (heap_set3 W g _ _ _ _ _ _ ng).trans M.mv, ownsRow_setCell_other (ownsRow_setCell_other (ownsRow_setCell_other M.fr nf _) nf _) nf _, ownsRow_setCell_other (ownsRow_setCell_other (ownsRow_setCell_other M.ta nt _) nt _) nt _, by simpa using M.size, fun q hq hn => (heap_set3 W g _ _ _ _ _ _ hn).trans (M.old q hq hn)⟩
theorem TuAt.set1 {W0 w W : World} {L : List I12} {g cap n k bm : Nat} {fv tv : Value} {F T : List Nat} (M : TuAt W0 w W L g cap n k bm fv tv F T) {j : Nat} {x y : I12} (hk : L[j]? = some x) (r : Nat) (hr : r < 12) (a : Value) (hy : y.cells = x.cells.set r a) :
    TuAt W0 w (W.setCell ⟨g, j * 12 + r, none⟩ a) (L.set j y) g cap n k bm fv tv F T := by
  have lb := (iblk_at M.own).1
  have ng := mv_apart M.own M.mv
  have nf := nat_off M.own M.fr
  have nt := nat_off M.own M.ta
  exact ⟨M.below.setCell lb _, M.own.set1 hk r hr a hy, (heap_setCell_other W ⟨g, j * 12 + r, none⟩ bm a (fun e => ng e)).trans M.mv, ownsRow_setCell_other M.fr nf _, ownsRow_setCell_other M.ta nt _, by simpa using M.size, fun q hq hn => (heap_setCell_other W ⟨g, j * 12 + r, none⟩ q a (fun e => hn e)).trans (M.old q hq hn)⟩
section
variable (w : World)
set_option maxHeartbeats 16000000 in
set_option maxRecDepth 100000 in
theorem pturn (W0 : World) (l : List I12) (g cap k : Nat) (x : I12) (s p : ByteArray) (F T : List Nat) (fo ta : Option Addr) (fc tc : Nat) (hr : RT l) (hb0 : Below W0.heap.size W0 w) (ho : IOwn w W0.heap.size l (.slice (some ⟨g, 0, none⟩) l.length cap))
    (hf : NatO w W0.heap.size (.slice fo F.length fc) F) (ht : NatO w W0.heap.size (.slice ta T.length tc) T) (hk : l[k]? = some x) (WY : Ways l k x s p F T) :
    Calls Try.prog 47 #[.agg #[.slice (some ⟨g, 0, none⟩) l.length cap, .int .i64 (k : Int), .slice fo F.length fc, .slice ta T.length tc], .string p] w fun e w' => e = .returned (.tuple #[]) ∧ Below W0.heap.size W0 w' ∧
      IOwn w' W0.heap.size (((chgL T x.sub (chgL F (negV x.sub) l)).set k ⟨x.name, p, x.lim, x.own, x.sub, x.ver⟩).set k ⟨x.name, p, x.lim, x.own, x.sub, x.ver + 1⟩) (.slice (some ⟨g, 0, none⟩) l.length cap) ∧ w.heap.size ≤ w'.heap.size ∧ ∀ q, q < w.heap.size → q ≠ g → w'.heap[q]? = w.heap[q]? := by
  have hl : l.length ≤ 120 := hr.len
  have kl : k < l.length := (List.getElem?_eq_some_iff.1 hk).1
  have xm := List.mem_of_getElem? hk
  have MB := Lib.hid (fun y (hy : y ∈ l) => may_bounds (one_iff.1 (hr.one y hy)).2.2.2.2.2.2)
  have XB := Lib.hid (MB.out x xm)
  have XV := Lib.hid (show 1 ≤ x.ver ∧ x.ver ≤ 9007199254740992 from (one_iff.1 (hr.one x xm)).2.2.2.2.1)
  have SB := Lib.hid (show ∀ y ∈ l, ∀ W, Calls Try.prog 71 #[.agg #[.int .i64 y.sub.c, .int .i64 y.sub.m, .int .i64 y.sub.p], .agg #[.int .i64 x.sub.c, .int .i64 x.sub.m, .int .i64 x.sub.p]] W (Made (.agg #[.int .i64 (addV y.sub (negV x.sub)).c, .int .i64 (addV y.sub (negV x.sub)).m, .int .i64 (addV y.sub (negV x.sub)).p]) W) from fun y hy W => by
    have h1 := MB.out y hy
    have h2 := XB.out
    have := vsub_any W y.sub x.sub (by unfold V3.I subV; simp only; omega)
    rwa [sub_neg] at this)
  have AD := Lib.hid (show ∀ y ∈ l, ∀ W lv, VRow W [y.sub, x.sub] lv → Calls Try.prog 70 #[lv] W (Made (.agg #[.int .i64 (addV y.sub x.sub).c, .int .i64 (addV y.sub x.sub).m, .int .i64 (addV y.sub x.sub).p]) W) from fun y hy W lv hv => by
    have := vadd_any W [y.sub, x.sub] lv hv (by simp) (by
      have h1 := MB.out y hy
      have h2 := XB.out
      simp only [List.mem_cons, List.not_mem_nil, or_false]
      rintro u (rfl | rfl)
      · unfold V3.Upto; omega
      · unfold V3.Upto; omega)
    rwa [two_sum] at this)
  have PN := Lib.hid (fun W => pone W g l.length cap k kl)
  have bx := below_al (Below.refl w.heap.size w) (.cells #[.slice (some ⟨g, 0, none⟩) l.length cap, .int .i64 (k : Int), .slice fo F.length fc, .slice ta T.length tc] 76)
  have M0 := Lib.hid (show TuAt W0 w (w.alloc (.cells #[.slice (some ⟨g, 0, none⟩) l.length cap, .int .i64 (k : Int), .slice fo F.length fc, .slice ta T.length tc] 76)) l g cap l.length k w.heap.size (.slice fo F.length fc) (.slice ta T.length tc) F T from ⟨below_tr hb0 bx, own_below ho bx, MvB.new w _ _ _ _, NatO.below hf bx, NatO.below ht bx, bx.size, fun q hq _ => bx.block q hq⟩)
  have HK := Lib.hid hk
  have FLn := Lib.hid (show F.length ≤ l.length from by
    have h1 := WY.fn
    have h2 := WY.fl
    have h3 : ∀ z ∈ F, z ∈ List.range l.length := fun z hz => by
      obtain ⟨y, hy⟩ := h2 z hz
      exact List.mem_range.2 (List.getElem?_eq_some_iff.1 hy).1
    have := nodup_le F (List.range l.length) h1 h3
    simpa using this)
  have TLn := Lib.hid (show T.length ≤ l.length from by
    have h3 : ∀ z ∈ T, z ∈ List.range l.length := fun z hz => by
      obtain ⟨y, hy⟩ := WY.tl z hz
      exact List.mem_range.2 (List.getElem?_eq_some_iff.1 hy).1
    have := nodup_le T (List.range l.length) WY.tn h3
    simpa using this)
  have fln : F.length ≤ 120 := by have := FLn.out; omega
  have tln : T.length ≤ 120 := by have := TLn.out; omega
  have WH := Lib.hid WY
  obtain ⟨c0, c1, c2, c3⟩ := M0.out.mv.cells
  clear bx hb0 ho hf ht hk hr xm WY
  go_enter Try.func47, Try.ntmps47
  go_wp2_with fail
  generalize (w.alloc (.cells #[.slice (some ⟨g, 0, none⟩) l.length cap, .int .i64 (k : Int), .slice fo F.length fc, .slice ta T.length tc] 76)) = w0 at *
  generalize hbm : w.heap.size = bm at *
  clear c0 c1 c2 c3
  go_loopg [11] F.length (fun m iv wr => ∃ j : Nat, iv = .int .i64 (j : Int) ∧ F.length - j ≤ m ∧ j ≤ F.length ∧ TuAt W0 w wr (chgL (F.take j) (negV x.sub) l) g cap l.length k bm (.slice fo F.length fc) (.slice ta T.length tc) F T)
  case atStart => exact ⟨0, rfl, Nat.le_refl _, Nat.zero_le _, by rw [List.take_zero, chg_nil]; exact M0.out⟩
  case round =>
    obtain ⟨j, rfl, hm, hj, hM⟩ := hrel
    have HM := Lib.hid hm
    have MR := Lib.hid hM
    clear hm hM
    by_cases hlt : j < F.length
    · obtain ⟨z, hz⟩ : ∃ z, F[j]? = some z := ⟨_, List.getElem?_eq_getElem hlt⟩
      obtain ⟨y, hy⟩ := WH.out.fl z (List.mem_of_getElem? hz)
      have ZK := Lib.hid (show (chgL (F.take j) (negV x.sub) l)[z]? = some y from chg_at (take_not WH.out.fn hz) hy)
      have XK := Lib.hid (show (chgL (F.take j) (negV x.sub) l)[k]? = some x from chg_at (fun h => WH.out.kf (List.mem_of_mem_take h)) HK.out)
      have ST := Lib.hid (chg_set WH.out.fn (d := negV x.sub) hz hy)
      have YM := Lib.hid (List.mem_of_getElem? hy)
      have zl : z < l.length := (List.getElem?_eq_some_iff.1 hy).1
      obtain ⟨bz, eb, u0⟩ := own_cell MR.out.fr hz
      obtain ⟨b0, b1, b2, b3⟩ := MR.out.mv.cells
      obtain ⟨-, AY⟩ := own_at12 MR.out.own ZK.out
      obtain ⟨-, AX⟩ := own_at12 MR.out.own XK.out
      have q8 := AY.c8
      have q9 := AY.c9
      have q10 := AY.c10
      have r8 := AX.c8
      have r9 := AX.c9
      have r10 := AX.c10
      have y0 : (0 : Int) ≤ (j : Int) := by omega
      have y1 : (j : Int) < (F.length : Int) := by omega
      have y2 : (0 : Int) ≤ (z : Int) := by omega
      have y3 : (z : Int) < (l.length : Int) := by omega
      clear hz hy AY AX
      generalize hLL : chgL (F.take j) (negV x.sub) l = LL at *
      clear hLL
      subst eb
      go_upto_region 4 with fail
      refine wp_region_mono_tail 20 (by kernel_rfl) (by kernel_rfl) (Nat.le_of_ble_eq_true (by kernel_rfl)) (by kernel_rfl) ?_
      simp only [List.map_cons, List.map_nil]
      simp only [List.take_succ_cons, List.take_zero, List.drop_succ_cons, List.drop_zero]
      repeat (first
        | (apply wpM_is
           · (intro us W hW hg K hK
              clear hg
              have d0 := hold hW b0
              have d1 := hold hW b1
              have e8 := hold hW q8
              have e9 := hold hW q9
              have e10 := hold hW q10
              have f8 := hold hW r8
              have f9 := hold hW r9
              have f10 := hold hW r10
              simp only [fillA]
              go_simp
              first
              | exact hK _ (Below.refl _ _)
              | ((with_reducible refine (PN.out _).mono ?_); rintro e w' ⟨rfl, hb⟩; exact hK _ hb)
              | ((with_reducible refine (SB.out y YM.out _).mono ?_); rintro e w' ⟨rfl, hb⟩; exact hK _ hb))
           simp only [setD, List.set_cons_zero, List.set_cons_succ]))
      intro us W hW hg
      simp only [fillA]
      clear hg
      have MW := Lib.hid (MR.out.next hW)
      have MS := Lib.hid (MW.out.set3 (y := smI (negV x.sub) y) ZK.out 8 (by decide) (.int .i64 (addV y.sub (negV x.sub)).c) (.int .i64 (addV y.sub (negV x.sub)).m) (.int .i64 (addV y.sub (negV x.sub)).p) rfl)
      have k8 := hold hW q8
      have k9 := hold hW q9
      have k10 := hold hW q10
      have z8 := IOwn.frz MW.out.own (z * 12 + 8)
      have z9 := IOwn.frz MW.out.own (z * 12 + 9)
      have z10 := IOwn.frz MW.out.own (z * 12 + 10)
      clear hW b0 b1 b2 b3 q8 q9 q10 r8 r9 r10 u0
      rw [ST.out] at MS
      go_wp2_with fail
      go_roundg (F.length - (j + 1))
      case rel => exact ⟨j + 1, by go_num, Nat.le_refl _, hlt, MS.out⟩
      case measure => have := HM.out; omega
    · obtain rfl : j = F.length := by omega
      have ME := Lib.hid (show TuAt W0 w wr (chgL F (negV x.sub) l) g cap l.length k bm (.slice fo F.length fc) (.slice ta T.length tc) F T from by have := MR.out; rwa [List.take_length] at this)
      obtain ⟨c0, c1, c2, c3⟩ := ME.out.mv.cells
      clear MR
      go_wp2_with fail
      go_loopg [39] T.length (fun m iv wr => ∃ j : Nat, iv = .int .i64 (j : Int) ∧ T.length - j ≤ m ∧ j ≤ T.length ∧ TuAt W0 w wr (chgL (T.take j) x.sub (chgL F (negV x.sub) l)) g cap l.length k bm (.slice fo F.length fc) (.slice ta T.length tc) F T)
      case atStart => exact ⟨0, rfl, Nat.le_refl _, Nat.zero_le _, by rw [List.take_zero, chg_nil]; exact ME.out⟩
      case round =>
        obtain ⟨j, rfl, hm, hj, hM⟩ := hrel
        have HM := Lib.hid hm
        have MR := Lib.hid hM
        clear hm hM
        by_cases hlt : j < T.length
        · obtain ⟨z, hz⟩ : ∃ z, T[j]? = some z := ⟨_, List.getElem?_eq_getElem hlt⟩
          obtain ⟨y, hy⟩ := WH.out.tl z (List.mem_of_getElem? hz)
          have ZK := Lib.hid (show (chgL (T.take j) x.sub (chgL F (negV x.sub) l))[z]? = some y from chg_at (take_not WH.out.tn hz) (chg_at (fun h => ((WH.out.to_ z y hy).1 (List.mem_of_getElem? hz)).2 ((WH.out.from_ z y hy).1 h).1) hy))
          have XK := Lib.hid (show (chgL (T.take j) x.sub (chgL F (negV x.sub) l))[k]? = some x from chg_at (fun h => WH.out.kt (List.mem_of_mem_take h)) (chg_at WH.out.kf HK.out))
          have ST := Lib.hid (chg_set WH.out.tn (d := x.sub) hz (chg_at (d := negV x.sub) (fun h => ((WH.out.to_ z y hy).1 (List.mem_of_getElem? hz)).2 ((WH.out.from_ z y hy).1 h).1) hy))
          have YM := Lib.hid (List.mem_of_getElem? hy)
          have zl : z < l.length := (List.getElem?_eq_some_iff.1 hy).1
          obtain ⟨bz, eb, u0⟩ := own_cell MR.out.ta hz
          obtain ⟨b0, b1, b2, b3⟩ := MR.out.mv.cells
          obtain ⟨-, AY⟩ := own_at12 MR.out.own ZK.out
          obtain ⟨-, AX⟩ := own_at12 MR.out.own XK.out
          have q8 := AY.c8
          have q9 := AY.c9
          have q10 := AY.c10
          have r8 := AX.c8
          have r9 := AX.c9
          have r10 := AX.c10
          have y0 : (0 : Int) ≤ (j : Int) := by omega
          have y1 : (j : Int) < (T.length : Int) := by omega
          have y2 : (0 : Int) ≤ (z : Int) := by omega
          have y3 : (z : Int) < (l.length : Int) := by omega
          clear hz hy AY AX
          generalize hLL : chgL (T.take j) x.sub (chgL F (negV x.sub) l) = LL at *
          clear hLL
          subst eb
          go_upto_region 9 with fail
          refine wp_region_mono_tail 21 (by kernel_rfl) (by kernel_rfl) (Nat.le_of_ble_eq_true (by kernel_rfl)) (by kernel_rfl) ?_
          simp only [List.map_cons, List.map_nil]
          simp only [List.take_succ_cons, List.take_zero, List.drop_succ_cons, List.drop_zero]
          repeat (first
            | (apply wpM_is
               · (intro us W hW hg K hK
                  clear hg
                  have d0 := hold hW b0
                  have d1 := hold hW b1
                  have e8 := hold hW q8
                  have e9 := hold hW q9
                  have e10 := hold hW q10
                  have f8 := hold hW r8
                  have f9 := hold hW r9
                  have f10 := hold hW r10
                  simp only [fillA]
                  go_simp
                  first
                  | exact hK _ (Below.refl _ _)
                  | ((with_reducible refine (PN.out _).mono ?_); rintro e w' ⟨rfl, hb⟩; exact hK _ hb))
               simp only [setD, List.set_cons_zero, List.set_cons_succ]))
          refine wpM_any (fun u W => VRow W [y.sub, x.sub] u) (fun u W W' h hb => h.below hb) ?_ ?_
          · intro us W hW hg K hK
            clear hg
            simp only [fillA]
            go_simp
            exact hK _ _ (vrow_new [y.sub, x.sub] (heap_alloc_new _ _)) (below_al (Below.refl _ _) _)
          simp only [setD, List.set_cons_zero, List.set_cons_succ]
          apply wpM_is
          · intro us W hW hg K hK
            have h0 := hg 60 (List.elem_iff.1 (by kernel_rfl)) _ rfl
            clear hg
            simp only [fillA]
            go_simp
            (with_reducible refine (AD.out y YM.out _ _ h0).mono ?_)
            rintro e w' ⟨rfl, hb⟩
            exact hK _ hb
          simp only [setD, List.set_cons_zero, List.set_cons_succ]
          repeat (first
            | (apply wpM_is
               · (intro us W hW hg K hK
                  clear hg
                  have d0 := hold hW b0
                  have d1 := hold hW b1
                  have e8 := hold hW q8
                  have e9 := hold hW q9
                  have e10 := hold hW q10
                  have f8 := hold hW r8
                  have f9 := hold hW r9
                  have f10 := hold hW r10
                  simp only [fillA]
                  go_simp
                  first
                  | exact hK _ (Below.refl _ _))
               simp only [setD, List.set_cons_zero, List.set_cons_succ]))
          intro us W hW hg
          simp only [fillA]
          clear hg
          have MW := Lib.hid (MR.out.next hW)
          have MS := Lib.hid (MW.out.set3 (y := smI (x.sub) y) ZK.out 8 (by decide) (.int .i64 (addV y.sub (x.sub)).c) (.int .i64 (addV y.sub (x.sub)).m) (.int .i64 (addV y.sub (x.sub)).p) rfl)
          have k8 := hold hW q8
          have k9 := hold hW q9
          have k10 := hold hW q10
          have z8 := IOwn.frz MW.out.own (z * 12 + 8)
          have z9 := IOwn.frz MW.out.own (z * 12 + 9)
          have z10 := IOwn.frz MW.out.own (z * 12 + 10)
          clear hW b0 b1 b2 b3 q8 q9 q10 r8 r9 r10 u0
          rw [ST.out] at MS
          go_wp2_with fail
          go_roundg (T.length - (j + 1))
          case rel => exact ⟨j + 1, by go_num, Nat.le_refl _, hlt, MS.out⟩
          case measure => have := HM.out; omega
        · obtain rfl : j = T.length := by omega
          have ME := Lib.hid (show TuAt W0 w wr (chgL T x.sub (chgL F (negV x.sub) l)) g cap l.length k bm (.slice fo F.length fc) (.slice ta T.length tc) F T from by have := MR.out; rwa [List.take_length] at this)
          obtain ⟨c0, c1, c2, c3⟩ := ME.out.mv.cells
          clear MR
          have XK2 := Lib.hid (show (chgL T x.sub (chgL F (negV x.sub) l))[k]? = some x from chg_at WH.out.kt (chg_at WH.out.kf HK.out))
          obtain ⟨-, AX⟩ := own_at12 ME.out.own XK2.out
          have a1 := AX.c1
          clear AX
          go_upto_region 11 with fail
          go_upto_region 12 with (first
            | (go_at_call 42; (with_reducible refine (PN.out _).mono ?_); rintro e w5 ⟨rfl, hb5⟩; have M5 := Lib.hid (ME.out.next hb5); replace a1 := hold hb5 a1; have z1 := IOwn.frz M5.out.own (k * 12 + 1); clear hb5 c0 c1 c2 c3))
          have M6 := Lib.hid (M5.out.set1 (y := ⟨x.name, p, x.lim, x.own, x.sub, x.ver⟩) XK2.out 1 (by decide) (.string p) rfl)
          have XK3 := Lib.hid (show ((chgL T x.sub (chgL F (negV x.sub) l)).set k (⟨x.name, p, x.lim, x.own, x.sub, x.ver⟩ : I12))[k]? = some (⟨x.name, p, x.lim, x.own, x.sub, x.ver⟩ : I12) from List.getElem?_set_self (by rw [chg_len, chg_len]; exact kl))
          clear a1 z1
          generalize (w5.setCell ⟨g, k * 12 + 1, none⟩ (.string p)) = w6 at *
          obtain ⟨c0, c1, c2, c3⟩ := M6.out.mv.cells
          have PC := Lib.hid (pcount w6 W0.heap.size _ g l.length cap k (⟨x.name, p, x.lim, x.own, x.sub, x.ver⟩ : I12) M6.out.own XK3.out XV.out.2 (by have := XV.out.1; show 0 ≤ x.ver; omega))
          go_wp2_with fail
          with_reducible refine PC.out.mono ?_
          rintro e w7 ⟨rfl, w8, hb8, rfl⟩
          have M8 := Lib.hid ((M6.out.next hb8).set1 (y := ⟨x.name, p, x.lim, x.own, x.sub, x.ver + 1⟩) XK3.out 11 (by decide) (.int .i64 (x.ver + 1)) rfl)
          clear hb8 c0 c1 c2 c3
          go_wp2_with fail
          exact bodyPost_end (v := .tuple #[]) (by simp [results, Try.results47, go_sem]) rfl ⟨rfl, M8.out.below, M8.out.own, by have := M8.out.size; omega, fun q hq hn => M8.out.old q (by omega) hn⟩
end
end Go.Proofs.Ytmpakgabehplbaa
