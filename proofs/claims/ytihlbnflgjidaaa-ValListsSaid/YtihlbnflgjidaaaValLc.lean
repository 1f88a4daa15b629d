/- The law of lists of values, walked. -/
import Derived.Test.YtihlbnflgjidaaaValLb
namespace Go.Proofs.Ytihlbnflgjidaaa
open Go.RowKit
set_option linter.unusedVariables false
set_option linter.unusedSimpArgs false

section
variable (w : World)
set_option maxHeartbeats 16000000 in
set_option maxRecDepth 100000 in
theorem vlists_long (v : Value) (xs : List Int) (a : Int) (n : Nat) (h : NumsRd .i16 w v xs) (hx : ∀ x ∈ xs, -32768 ≤ x ∧ x ≤ 32767) (hl : xs.length ≤ 80) (ha : -9223372036854775808 ≤ a ∧ a ≤ 9223372036854775807) (hn : n < 256) (hc : 64 < xs.length) :
    Calls Try.prog 4 #[v, .int .i64 a, .int .u8 n] w (Made (.bool true) w) := by
  have H := Lib.hid h
  have HX := Lib.hid hx
  have HC := Lib.hid hc
  obtain ⟨ao, cap, rfl⟩ := h.shape
  obtain ⟨i0, hi0, hz0, hz1, hz2⟩ := info_parts info_val
  clear h hx hc
  go_enter Try.func4, Try.ntmps4
  go_wp2_with fail
  go_loopg [7, 8] xs.length (fun m rv iv wr => ∃ i : Nat, iv = .int .i64 i ∧ xs.length - i ≤ m ∧ i ≤ xs.length ∧ Below w.heap.size w wr ∧ wr.ownsRow w.heap.size 26 4 rv i (rowCells ((xs.take i).map np)))
  case atStart => exact ⟨0, rfl, Nat.le_refl _, Nat.zero_le _, Below.refl _ _, own_none _ _ _ _⟩
  case round =>
  obtain ⟨i, rfl, hm, hi, hb, ho⟩ := hrel
  obtain ⟨rao, rcap, rfl⟩ := own_len ho
  have HM := Lib.hid hm
  have BR := Lib.hid hb
  have O := Lib.hid ho
  clear hm hb ho
  by_cases hil : i < xs.length
  · obtain ⟨x, hu⟩ : ∃ x, xs[i]? = some x := ⟨_, List.getElem?_eq_getElem hil⟩
    obtain ⟨ao2, cap2, e2, hc⟩ := (H.out.below BR.out)
    simp only [Value.slice.injEq, true_and] at e2
    obtain ⟨rfl, rfl⟩ := e2
    obtain ⟨g, o, rfl, c0⟩ := hc i x hu
    have hxr := HX.out x (List.mem_of_getElem? hu)
    have TS := Lib.hid (show rowCells ((xs.take (i + 1)).map np) = rowCells ((xs.take i).map np) ++ pairCells (np x) by rw [List.take_add_one, hu, Option.toList_some, List.map_append, ← rowCells_snoc]; rfl)
    clear hc hu
    go_wp2_with fail
    with_reducible refine (lval _ _).mono ?_
    rintro e w2 ⟨rfl, hb2⟩
    have B2 := Lib.hid (below_tr BR.out hb2)
    have O2 := Lib.hid (own_below O.out hb2)
    have NW := Lib.hid (news_new w2 #[.int .i64 1, .int .i64 x, .string ⟨#[]⟩, .slice none 0 0] 26)
    clear hb2 hxr
    go_wp2_with (at_builtin; refine wpList_append_own _ rfl _ _ 24 rfl w.heap.size 26 i0 _ 4 56 Try.underlying24 hi0 hz0 hz1 hz2 rfl (by decide) (.slice rao i rcap) i (rowCells ((xs.take i).map np)) rfl (O2.out.alloc _) ⟨w2.heap.size, 0, none⟩ 1 1 [.int .i64 1, .int .i64 x, .string ⟨#[]⟩, .slice none 0 0] rfl rfl ?a1 ?b1 ?c1 ?d1 ?e1 ?_)
    try case a1 => exact NW.out
    case b1 => simp [Value.oneCell']
    case c1 => unfold maxLen; omega
    case d1 => omega
    case e1 => have := B2.out.size; simp; omega
    intro v' w6 hown hgrow _
    have BZ := Lib.hid (below_grown B2.out hgrow (fun k hk => (World.ownsRow.lt O.out k hk).1))
    have OZ := Lib.hid (show w6.ownsRow w.heap.size 26 4 v' (i + 1) (rowCells ((xs.take (i + 1)).map np)) by rw [TS.out, List.map_take]; exact hown)
    clear hown hgrow
    go_wp2_with fail
    go_roundg (xs.length - (i + 1))
    case rel => exact ⟨i + 1, rfl, Nat.le_refl _, hil, BZ.out, OZ.out⟩
    case measure => have := HM.out; omega
  have ei : i = xs.length := by omega
  have RD := Lib.hid (np_rd (by have h := O.out; rw [ei, List.take_length] at h; exact h) (by omega))
  subst ei
  clear hil hi HM O i0 hi0 hz0 hz1 hz2
  have LL := Lib.hid (vlist_bad wr _ _ _ RD.out (may_long (by rw [List.length_map]; exact HC.out)))
  have hlt : (64 : Int) < (xs.length : Int) := by have := HC.out; omega
  go_wp2_with fail
  refine LL.out.mono ?_
  rintro e w2 ⟨rfl, hb⟩
  have K := Lib.hid (kept_al (kept_tr BR.out hb) (.cells #[.int .i64 0, .int .i64 0, .string ⟨#[]⟩, .slice none 0 0] 26))
  clear hb
  go_wp2_with fail
  refine (lnum _ _).mono ?_
  rintro e w' ⟨rfl, rfl⟩
  go_wp2_with fail
  refine (law_awake _).mono ?_
  rintro e wz ⟨rfl, hb⟩
  replace K := Lib.hid (kept_tr K.out hb)
  clear hb
  go_wp2_with fail
  go_ret
  exact ⟨rfl, K.out⟩
set_option maxHeartbeats 16000000 in
set_option maxRecDepth 100000 in
theorem vlists_at (v : Value) (xs : List Int) (a : Int) (n : Nat) (h : NumsRd .i16 w v xs) (hx : ∀ x ∈ xs, -32768 ≤ x ∧ x ≤ 32767) (hl : xs.length ≤ 80) (ha : -9223372036854775808 ≤ a ∧ a ≤ 9223372036854775807) (hn : n < 256) (hc : xs.length ≤ 64 ∧ 0 ≤ a ∧ a < (xs.length : Int)) :
    Calls Try.prog 4 #[v, .int .i64 a, .int .u8 n] w (Made (.bool true) w) := by
  have H := Lib.hid h
  have HX := Lib.hid hx
  have HC := Lib.hid hc
  obtain ⟨ao, cap, rfl⟩ := h.shape
  obtain ⟨i0, hi0, hz0, hz1, hz2⟩ := info_parts info_val
  clear h hx hc
  go_enter Try.func4, Try.ntmps4
  go_wp2_with fail
  go_loopg [7, 8] xs.length (fun m rv iv wr => ∃ i : Nat, iv = .int .i64 i ∧ xs.length - i ≤ m ∧ i ≤ xs.length ∧ Below w.heap.size w wr ∧ wr.ownsRow w.heap.size 26 4 rv i (rowCells ((xs.take i).map np)))
  case atStart => exact ⟨0, rfl, Nat.le_refl _, Nat.zero_le _, Below.refl _ _, own_none _ _ _ _⟩
  case round =>
  obtain ⟨i, rfl, hm, hi, hb, ho⟩ := hrel
  obtain ⟨rao, rcap, rfl⟩ := own_len ho
  have HM := Lib.hid hm
  have BR := Lib.hid hb
  have O := Lib.hid ho
  clear hm hb ho
  by_cases hil : i < xs.length
  · obtain ⟨x, hu⟩ : ∃ x, xs[i]? = some x := ⟨_, List.getElem?_eq_getElem hil⟩
    obtain ⟨ao2, cap2, e2, hc⟩ := (H.out.below BR.out)
    simp only [Value.slice.injEq, true_and] at e2
    obtain ⟨rfl, rfl⟩ := e2
    obtain ⟨g, o, rfl, c0⟩ := hc i x hu
    have hxr := HX.out x (List.mem_of_getElem? hu)
    have TS := Lib.hid (show rowCells ((xs.take (i + 1)).map np) = rowCells ((xs.take i).map np) ++ pairCells (np x) by rw [List.take_add_one, hu, Option.toList_some, List.map_append, ← rowCells_snoc]; rfl)
    clear hc hu
    go_wp2_with fail
    with_reducible refine (lval _ _).mono ?_
    rintro e w2 ⟨rfl, hb2⟩
    have B2 := Lib.hid (below_tr BR.out hb2)
    have O2 := Lib.hid (own_below O.out hb2)
    have NW := Lib.hid (news_new w2 #[.int .i64 1, .int .i64 x, .string ⟨#[]⟩, .slice none 0 0] 26)
    clear hb2 hxr
    go_wp2_with (at_builtin; refine wpList_append_own _ rfl _ _ 24 rfl w.heap.size 26 i0 _ 4 56 Try.underlying24 hi0 hz0 hz1 hz2 rfl (by decide) (.slice rao i rcap) i (rowCells ((xs.take i).map np)) rfl (O2.out.alloc _) ⟨w2.heap.size, 0, none⟩ 1 1 [.int .i64 1, .int .i64 x, .string ⟨#[]⟩, .slice none 0 0] rfl rfl ?a1 ?b1 ?c1 ?d1 ?e1 ?_)
    try case a1 => exact NW.out
    case b1 => simp [Value.oneCell']
    case c1 => unfold maxLen; omega
    case d1 => omega
    case e1 => have := B2.out.size; simp; omega
    intro v' w6 hown hgrow _
    have BZ := Lib.hid (below_grown B2.out hgrow (fun k hk => (World.ownsRow.lt O.out k hk).1))
    have OZ := Lib.hid (show w6.ownsRow w.heap.size 26 4 v' (i + 1) (rowCells ((xs.take (i + 1)).map np)) by rw [TS.out, List.map_take]; exact hown)
    clear hown hgrow
    go_wp2_with fail
    go_roundg (xs.length - (i + 1))
    case rel => exact ⟨i + 1, rfl, Nat.le_refl _, hil, BZ.out, OZ.out⟩
    case measure => have := HM.out; omega
  have ei : i = xs.length := by omega
  have RD := Lib.hid (np_rd (by have h := O.out; rw [ei, List.take_length] at h; exact h) (by omega))
  subst ei
  clear hil hi HM O i0 hi0 hz0 hz1 hz2
  have LL := Lib.hid (vlist_ok wr _ _ _ RD.out (may_nums HC.out.1))
  have hnl : ¬ (64 : Int) < (xs.length : Int) := by have := HC.out.1; omega
  go_wp2_with fail
  refine LL.out.mono ?_
  rintro e w2 ⟨lv, rfl, hin, hb⟩
  have R2 := Lib.hid hin.rd
  have K := Lib.hid (kept_tr BR.out hb)
  obtain ⟨lo, lc, rfl⟩ := hin.rd.shape
  have LN := Lib.hid (show (xs.map vnum).length = xs.length by rw [List.length_map])
  clear hb hin RD
  generalize hnl1 : xs.map vnum = ls at *
  have LS := Lib.hid hnl1
  clear hnl1
  go_wp2_with fail
  have X := Lib.hid (show VBlk (w2.alloc (.cells #[.int .i64 4, .int .i64 0, .string ⟨#[]⟩, .slice lo ls.length lc] 26)) w2.heap.size (VL.mk 4 0 ⟨#[]⟩ ls) (.slice lo ls.length lc) from VBlk.new w2 (VL.mk 4 0 ⟨#[]⟩ ls) (.slice lo ls.length lc))
  replace K := Lib.hid (kept_al K.out (.cells #[.int .i64 4, .int .i64 0, .string ⟨#[]⟩, .slice lo ls.length lc] 26))
  replace R2 := Lib.hid (R2.out.below (below_al (Below.refl _ _) (.cells #[.int .i64 4, .int .i64 0, .string ⟨#[]⟩, .slice lo ls.length lc] 26)))
  generalize w2.alloc (.cells #[.int .i64 4, .int .i64 0, .string ⟨#[]⟩, .slice lo ls.length lc] 26) = v2 at *
  generalize w2.heap.size = GX at X ⊢
  obtain ⟨ix, hix⟩ : ∃ ix : Nat, a = (ix : Int) := ⟨a.toNat, by have := HC.out; omega⟩
  subst hix
  obtain ⟨x, hxx⟩ : ∃ x, xs[ix]? = some x := ⟨_, List.getElem?_eq_getElem (by have := HC.out; omega)⟩
  have XX := Lib.hid hxx
  have XR := Lib.hid (HX.out x (List.mem_of_getElem? hxx))
  clear hxx
  have TI := Lib.hid (fun V (hV : Below v2.heap.size v2 V) => t_index_at V xs (.slice lo ls.length lc) ix x (by rw [LS.out]; exact R2.out.below hV) XX.out)
  go_cut [11, 12] (fun s11 s12 wx => ∃ gx : Nat, s11 = .pointer (some ⟨gx, 0, none⟩) ∧ s12 = .int .i64 0 ∧ AtBlk wx gx x ∧ Below v2.heap.size v2 wx)
  case first =>
    refine reg11 X TI ?_
    intro y50 y51 y52 y53 y54 y55 y56 gx wx hwx hat
    dsimp only
    go_wp2
    go_meet
    case rel => exact ⟨gx, rfl, rfl, hat, hwx⟩
  case rest =>
  obtain ⟨gx, rfl, rfl, hat, hbx⟩ := hcut
  replace X := Lib.hid (X.out.below hbx)
  replace K := Lib.hid (kept_tr K.out hbx)
  have AT := Lib.hid hat
  have HW := Lib.hid (H.out.below K.out)
  clear hbx hat
  obtain ⟨x0, x1, x2, x3⟩ := X.out.cells
  have xl := X.out.lt
  have hlen : ((ls.length : Int) != (xs.length : Int)) = false := by rw [LN.out]; simp
  have LH := Lib.hid hlen
  have h0 : (0 : Int) ≤ (ix : Int) := by omega
  have h1 : (ix : Int) < (xs.length : Int) := HC.out.2.2
  go_wp2_with fail
  refine (lnum _ _).mono ?_
  rintro e w' ⟨rfl, rfl⟩
  go_wp2_with fail
  clear x0 x1 x2 x3 xl hlen
  obtain ⟨ao2, cap2, e2, hc⟩ := HW.out
  simp only [Value.slice.injEq, true_and] at e2
  obtain ⟨rfl, rfl⟩ := e2
  obtain ⟨g, o, rfl, c0⟩ := hc ix x XX.out
  obtain ⟨q1, ql⟩ := AT.out
  have hxr := XR.out
  clear hc
  have hgl := World.block_lt_of_cell? _ _ c0
  simp only at hgl
  go_quiet ((go_at_call 16; exact Calls.quiet_of_same ((lnum _ _).mono fun _ _ h => ⟨h.1, h.2.symm⟩)))
  replace K := Lib.hid (show Kept w _ from below_drewN K.out nq)
  clear c0 q1 ql hgl hxr HW X R2 TI AT
  generalize wc.drewN nq = wd at *
  have KC := K
  go_wp2_with fail
  have GB := Lib.hid (heap_alloc_new wd (.cells #[.int .i64 4, .int .i64 0, .string ⟨#[]⟩, .slice none 0 0] 26))
  replace K := Lib.hid (kept_al K.out (.cells #[.int .i64 4, .int .i64 0, .string ⟨#[]⟩, .slice none 0 0] 26))
  have GL := Lib.hid (show w.heap.size ≤ wd.heap.size from (show Below w.heap.size w wd from KC.out).size)
  have GS := Lib.hid (show wd.heap.size < (wd.alloc (.cells #[.int .i64 4, .int .i64 0, .string ⟨#[]⟩, .slice none 0 0] 26)).heap.size by simp)
  generalize wd.alloc (.cells #[.int .i64 4, .int .i64 0, .string ⟨#[]⟩, .slice none 0 0] 26) = wa at *
  generalize wd.heap.size = G at GB GL GS ⊢
  have hmod : ((n : Int) % 70) = ((n % 70 : Nat) : Int) := by omega
  have hk70 : n % 70 < 70 := Nat.mod_lt _ (by omega)
  generalize n % 70 = k at hmod hk70 ⊢
  go_loopg [14] k (fun m iv wr => ∃ (i j : Nat) (lv : Value), iv = .int .i64 i ∧ k - i ≤ m ∧ Hid (i = j + 1) ∧ (i ≤ k ∨ i = 1) ∧ i ≤ 100 ∧ Below w.heap.size w wr ∧ G < wr.heap.size ∧ wr.heap[G]? = some (.cells #[.int .i64 4, .int .i64 0, .string ⟨#[]⟩, lv] 26 (0, 0)) ∧ RowIn wr (fun b => b ≠ G) j (deepV j).kids lv)
  case atStart => exact ⟨1, 0, .slice none 0 0, rfl, by omega, Lib.hid rfl, .inr rfl, by omega, K.out, GS.out, GB.out, ⟨rfl, _, _, rfl⟩⟩
  case round =>
    obtain ⟨i, j, lv, rfl, hm, IJ, hik, hi9, hb, hgs, hgb, hin⟩ := hrel
    obtain ⟨lo, lc, rfl⟩ := hin.rd.shape
    have HM := Lib.hid hm
    have IK := Lib.hid hik
    have BR := Lib.hid hb
    have HB := Lib.hid hgb
    have IN := Lib.hid hin
    have HS := Lib.hid hgs
    have hgs2 : G < wr.heap.size := hgs
    have x0 := cell_of_row wr G 0 _ _ _ hgb
    have x1 := cell_of_row wr G 1 _ _ _ hgb
    have x2 := cell_of_row wr G 2 _ _ _ hgb
    have x3 := cell_of_row wr G 3 _ _ _ hgb
    replace x0 : wr.cell? ⟨G, 0, none⟩ = some (.int .i64 4) := x0
    replace x1 : wr.cell? ⟨G, 1, none⟩ = some (.int .i64 0) := x1
    replace x2 : wr.cell? ⟨G, 2, none⟩ = some (.string ⟨#[]⟩) := x2
    replace x3 : wr.cell? ⟨G, 3, none⟩ = some (.slice lo (deepV j).kids.length lc) := x3
    have f0 : wr.frozen? ⟨G, 0, none⟩ = false := by simp [World.frozen?, hgb]
    have f1 : wr.frozen? ⟨G, 1, none⟩ = false := by simp [World.frozen?, hgb]
    have f2 : wr.frozen? ⟨G, 2, none⟩ = false := by simp [World.frozen?, hgb]
    have f3 : wr.frozen? ⟨G, 3, none⟩ = false := by simp [World.frozen?, hgb]
    clear hm hik hb hgb hin
    have DK : (deepV j).kids.length ≤ 1 := by cases j <;> simp [deepV, vlist, VL.kids]
    by_cases hil : i < k
    · have S4 : ((((wr.setCell ⟨G, 0, none⟩ (.int .i64 4)).setCell ⟨G, 1, none⟩ (.int .i64 0)).setCell ⟨G, 2, none⟩ (.string ⟨#[]⟩)).setCell ⟨G, 3, none⟩ (.slice (some ⟨wr.heap.size, 0, none⟩) 1 1)).heap.size = wr.heap.size := by simp [World.setCell]
      have BN := Lib.hid (show Below w.heap.size w (((((wr.setCell ⟨G, 0, none⟩ (.int .i64 4)).setCell ⟨G, 1, none⟩ (.int .i64 0)).setCell ⟨G, 2, none⟩ (.string ⟨#[]⟩)).setCell ⟨G, 3, none⟩ (.slice (some ⟨wr.heap.size, 0, none⟩) 1 1)).alloc (.cells #[.int .i64 4, .int .i64 0, .string ⟨#[]⟩, .slice lo (deepV j).kids.length lc] 26)) from below_al (below_set4 BR.out GL.out _ _ _ _) _)
      have SG := Lib.hid (show G < ((((wr.setCell ⟨G, 0, none⟩ (.int .i64 4)).setCell ⟨G, 1, none⟩ (.int .i64 0)).setCell ⟨G, 2, none⟩ (.string ⟨#[]⟩)).setCell ⟨G, 3, none⟩ (.slice (some ⟨wr.heap.size, 0, none⟩) 1 1)).heap.size by rw [S4]; exact HS.out)
      have HN := Lib.hid (show (((((wr.setCell ⟨G, 0, none⟩ (.int .i64 4)).setCell ⟨G, 1, none⟩ (.int .i64 0)).setCell ⟨G, 2, none⟩ (.string ⟨#[]⟩)).setCell ⟨G, 3, none⟩ (.slice (some ⟨wr.heap.size, 0, none⟩) 1 1)).alloc (.cells #[.int .i64 4, .int .i64 0, .string ⟨#[]⟩, .slice lo (deepV j).kids.length lc] 26)).heap[G]? = some (.cells #[.int .i64 4, .int .i64 0, .string ⟨#[]⟩, .slice (some ⟨wr.heap.size, 0, none⟩) 1 1] 26 (0, 0)) from (Below.block (below_al (Below.refl _ _) _) G SG.out).trans (blk_set4 HB.out _ _ _ _))
      have SZ := Lib.hid (show G < (((((wr.setCell ⟨G, 0, none⟩ (.int .i64 4)).setCell ⟨G, 1, none⟩ (.int .i64 0)).setCell ⟨G, 2, none⟩ (.string ⟨#[]⟩)).setCell ⟨G, 3, none⟩ (.slice (some ⟨wr.heap.size, 0, none⟩) 1 1)).alloc (.cells #[.int .i64 4, .int .i64 0, .string ⟨#[]⟩, .slice lo (deepV j).kids.length lc] 26)).heap.size by have := SG.out; rw [show (((((wr.setCell ⟨G, 0, none⟩ (.int .i64 4)).setCell ⟨G, 1, none⟩ (.int .i64 0)).setCell ⟨G, 2, none⟩ (.string ⟨#[]⟩)).setCell ⟨G, 3, none⟩ (.slice (some ⟨wr.heap.size, 0, none⟩) 1 1)).alloc (.cells #[.int .i64 4, .int .i64 0, .string ⟨#[]⟩, .slice lo (deepV j).kids.length lc] 26)).heap.size = ((((wr.setCell ⟨G, 0, none⟩ (.int .i64 4)).setCell ⟨G, 1, none⟩ (.int .i64 0)).setCell ⟨G, 2, none⟩ (.string ⟨#[]⟩)).setCell ⟨G, 3, none⟩ (.slice (some ⟨wr.heap.size, 0, none⟩) 1 1)).heap.size + 1 by simp]; omega)
      have NB := Lib.hid (show (((((wr.setCell ⟨G, 0, none⟩ (.int .i64 4)).setCell ⟨G, 1, none⟩ (.int .i64 0)).setCell ⟨G, 2, none⟩ (.string ⟨#[]⟩)).setCell ⟨G, 3, none⟩ (.slice (some ⟨wr.heap.size, 0, none⟩) 1 1)).alloc (.cells #[.int .i64 4, .int .i64 0, .string ⟨#[]⟩, .slice lo (deepV j).kids.length lc] 26)).heap[wr.heap.size]? = some (.cells #[.int .i64 4, .int .i64 0, .string ⟨#[]⟩, .slice lo (deepV j).kids.length lc] 26 (0, 0)) from heap_at S4.symm)
      have IW := Lib.hid (show RowIn (((((wr.setCell ⟨G, 0, none⟩ (.int .i64 4)).setCell ⟨G, 1, none⟩ (.int .i64 0)).setCell ⟨G, 2, none⟩ (.string ⟨#[]⟩)).setCell ⟨G, 3, none⟩ (.slice (some ⟨wr.heap.size, 0, none⟩) 1 1)).alloc (.cells #[.int .i64 4, .int .i64 0, .string ⟨#[]⟩, .slice lo (deepV j).kids.length lc] 26)) (fun b => b ≠ G) j (deepV j).kids (.slice lo (deepV j).kids.length lc) from RowIn.keep (fun _ h => h) (fun b o z _ hz => hold (below_al (Below.refl _ _) _) hz) (set4_in IN.out (fun h => h rfl) _ _ _ _))
      have ROW := Lib.hid (deep_row (n := j) NB.out (by have := HS.out; omega) IW.out)
      clear S4
      go_wp2_with fail
      go_roundg (k - (i + 1))
      case rel => exact ⟨i + 1, j + 1, .slice (some ⟨wr.heap.size, 0, none⟩) 1 1, rfl, Nat.le_refl _, Lib.hid (by rw [IJ.out]), .inl hil, by omega, BN.out, SZ.out, HN.out, ROW.out⟩
      case measure => have := HM.out; omega
    · have ki : k ≤ i := by omega
      obtain ⟨e1, e2, e3⟩ := deep_kind j
      have MY := Lib.hid (fun W (hw : Below wr.heap.size wr W) => by have h := vMay W j (deepV j) _ (IN.out.rd.below hw); rw [e1, e2, e3] at h; exact h)
      have MD := may_deep 64 j
      have ME := may_deep 64 (j + 1)
      have RW := Lib.hid (IN.out.rd)
      clear f0 f1 f2 f3 e1 e2 e3
      by_cases h64 : 64 < k
      · rw [decide_eq_false (by have := IJ.out; have := IK.out; omega)] at MD
        rw [MD] at MY
        clear MD ME
        have hlt : (64 : Int) < (k : Int) := by omega
        go_wp2_with fail
        refine (MY.out _ (Below.refl _ _)).mono ?_
        rintro e w8 ⟨rfl, hb⟩
        have KZ := Lib.hid (kept_tr BR.out hb)
        clear hb
        go_wp2_with fail
        refine (law_awake _).mono ?_
        rintro e w9 ⟨rfl, hb⟩
        replace KZ := Lib.hid (kept_tr KZ.out hb)
        clear hb
        go_wp2_with fail
        go_ret
        exact ⟨rfl, KZ.out⟩
      · have hnlt : ¬ (64 : Int) < (k : Int) := by omega
        rw [decide_eq_true (by have := IJ.out; have := IK.out; omega)] at MD
        rw [MD] at MY
        have NB := Lib.hid (heap_alloc_new wr (.cells #[.int .i64 4, .int .i64 0, .string ⟨#[]⟩, .slice lo (deepV j).kids.length lc] 26))
        have R1 := Lib.hid (row_one (v := deepV j) (lv := .slice lo (deepV j).kids.length lc) (g := wr.heap.size) (w := wr.alloc (.cells #[.int .i64 4, .int .i64 0, .string ⟨#[]⟩, .slice lo (deepV j).kids.length lc] 26)) (by obtain ⟨e1, e2, e3⟩ := deep_kind j; rw [e1, e2, e3]; exact NB.out) (RW.out.below (below_al (Below.refl _ _) _)))
        have BN := Lib.hid (below_al BR.out (.cells #[.int .i64 4, .int .i64 0, .string ⟨#[]⟩, .slice lo (deepV j).kids.length lc] 26))
        have BM := Lib.hid (below_al (Below.refl wr.heap.size wr) (.cells #[.int .i64 4, .int .i64 0, .string ⟨#[]⟩, .slice lo (deepV j).kids.length lc] 26))
        have XB := Lib.hid (Below.block BM.out G HS.out)
        clear MD
        by_cases hok : j + 1 < 64
        · have LL := Lib.hid (fun W (hw : Below (wr.alloc (.cells #[.int .i64 4, .int .i64 0, .string ⟨#[]⟩, .slice lo (deepV j).kids.length lc] 26)).heap.size (wr.alloc (.cells #[.int .i64 4, .int .i64 0, .string ⟨#[]⟩, .slice lo (deepV j).kids.length lc] 26)) W) => vlist_ok W _ _ _ (R1.out.below hw) (show mayB 64 (deepV (j + 1)) = true by rw [ME]; exact decide_eq_true hok))
          clear ME
          by_cases h1k : (1 : Int) < (k : Int)
          · have hkk : (k : Int) < 64 := by have := IJ.out; have := IK.out; omega
            go_wp2_with fail
            refine (LL.out _ (Below.refl _ _)).mono ?_
            rintro e w8 ⟨lv8, rfl, hin8, hb⟩
            obtain ⟨o8, c8, rfl⟩ := hin8.rd.shape
            clear hin8
            have KZ := Lib.hid (kept_tr BN.out hb)
            have B8 := Lib.hid (below_tr BM.out hb)
            have y0 := hold B8.out x0
            have y1 := hold B8.out x1
            have y2 := hold B8.out x2
            have y3 := hold B8.out x3
            have yl := Nat.lt_of_lt_of_le HS.out B8.out.size
            clear hb x0 x1 x2 x3 hgs2
            go_wp2_with fail
            refine (MY.out _ (below_al B8.out _)).mono ?_
            rintro e w9 ⟨rfl, hb⟩
            replace KZ := Lib.hid (kept_tr (kept_al KZ.out _) hb)
            clear hb y0 y1 y2 y3 yl
            go_wp2_with fail
            refine (lnum _ _).mono ?_
            rintro e w' ⟨rfl, rfl⟩
            go_wp2_with fail
            refine (law_awake _).mono ?_
            rintro e wz ⟨rfl, hb⟩
            replace KZ := Lib.hid (kept_tr KZ.out hb)
            clear hb
            go_wp2_with fail
            go_ret
            exact ⟨rfl, KZ.out⟩
          · go_wp2_with fail
            refine (LL.out _ (Below.refl _ _)).mono ?_
            rintro e w8 ⟨lv8, rfl, hin8, hb⟩
            obtain ⟨o8, c8, rfl⟩ := hin8.rd.shape
            clear hin8
            have KZ := Lib.hid (kept_tr BN.out hb)
            have B8 := Lib.hid (below_tr BM.out hb)
            have y0 := hold B8.out x0
            have y1 := hold B8.out x1
            have y2 := hold B8.out x2
            have y3 := hold B8.out x3
            have yl := Nat.lt_of_lt_of_le HS.out B8.out.size
            clear hb x0 x1 x2 x3 hgs2
            go_wp2_with fail
            refine (MY.out _ (below_al B8.out _)).mono ?_
            rintro e w9 ⟨rfl, hb⟩
            replace KZ := Lib.hid (kept_tr (kept_al KZ.out _) hb)
            clear hb y0 y1 y2 y3 yl
            go_wp2_with fail
            refine (lnum _ _).mono ?_
            rintro e w' ⟨rfl, rfl⟩
            go_wp2_with fail
            refine (law_awake _).mono ?_
            rintro e wz ⟨rfl, hb⟩
            replace KZ := Lib.hid (kept_tr KZ.out hb)
            clear hb
            go_wp2_with fail
            go_ret
            exact ⟨rfl, KZ.out⟩
        · have LL := Lib.hid (fun W (hw : Below (wr.alloc (.cells #[.int .i64 4, .int .i64 0, .string ⟨#[]⟩, .slice lo (deepV j).kids.length lc] 26)).heap.size (wr.alloc (.cells #[.int .i64 4, .int .i64 0, .string ⟨#[]⟩, .slice lo (deepV j).kids.length lc] 26)) W) => vlist_bad W _ _ _ (R1.out.below hw) (show mayB 64 (deepV (j + 1)) = false by rw [ME]; exact decide_eq_false hok))
          clear ME
          by_cases h1k : (1 : Int) < (k : Int)
          · have hkk : ¬ (k : Int) < 64 := by have := IJ.out; have := IK.out; omega
            go_wp2_with fail
            refine (LL.out _ (Below.refl _ _)).mono ?_
            rintro e w8 ⟨rfl, hb⟩
            have KZ := Lib.hid (kept_tr BN.out hb)
            have B8 := Lib.hid (below_tr BM.out hb)
            have y0 := hold B8.out x0
            have y1 := hold B8.out x1
            have y2 := hold B8.out x2
            have y3 := hold B8.out x3
            have yl := Nat.lt_of_lt_of_le HS.out B8.out.size
            clear hb x0 x1 x2 x3 hgs2
            go_wp2_with fail
            refine (MY.out _ (below_al B8.out _)).mono ?_
            rintro e w9 ⟨rfl, hb⟩
            replace KZ := Lib.hid (kept_tr (kept_al KZ.out _) hb)
            clear hb y0 y1 y2 y3 yl
            go_wp2_with fail
            refine (lnum _ _).mono ?_
            rintro e w' ⟨rfl, rfl⟩
            go_wp2_with fail
            refine (law_awake _).mono ?_
            rintro e wz ⟨rfl, hb⟩
            replace KZ := Lib.hid (kept_tr KZ.out hb)
            clear hb
            go_wp2_with fail
            go_ret
            exact ⟨by rw [show (!decide ((k : Int) < 64)) = true by rw [decide_eq_false (by omega)]; rfl]; rfl, KZ.out⟩
          · exfalso
            have := IJ.out; have := IK.out; omega
set_option maxHeartbeats 16000000 in
set_option maxRecDepth 100000 in
theorem vlists_out (v : Value) (xs : List Int) (a : Int) (n : Nat) (h : NumsRd .i16 w v xs) (hx : ∀ x ∈ xs, -32768 ≤ x ∧ x ≤ 32767) (hl : xs.length ≤ 80) (ha : -9223372036854775808 ≤ a ∧ a ≤ 9223372036854775807) (hn : n < 256) (hc : xs.length ≤ 64 ∧ (a < 0 ∨ (xs.length : Int) ≤ a)) :
    Calls Try.prog 4 #[v, .int .i64 a, .int .u8 n] w (Made (.bool true) w) := by
  have H := Lib.hid h
  have HX := Lib.hid hx
  have HC := Lib.hid hc
  obtain ⟨ao, cap, rfl⟩ := h.shape
  obtain ⟨i0, hi0, hz0, hz1, hz2⟩ := info_parts info_val
  clear h hx hc
  go_enter Try.func4, Try.ntmps4
  go_wp2_with fail
  go_loopg [7, 8] xs.length (fun m rv iv wr => ∃ i : Nat, iv = .int .i64 i ∧ xs.length - i ≤ m ∧ i ≤ xs.length ∧ Below w.heap.size w wr ∧ wr.ownsRow w.heap.size 26 4 rv i (rowCells ((xs.take i).map np)))
  case atStart => exact ⟨0, rfl, Nat.le_refl _, Nat.zero_le _, Below.refl _ _, own_none _ _ _ _⟩
  case round =>
  obtain ⟨i, rfl, hm, hi, hb, ho⟩ := hrel
  obtain ⟨rao, rcap, rfl⟩ := own_len ho
  have HM := Lib.hid hm
  have BR := Lib.hid hb
  have O := Lib.hid ho
  clear hm hb ho
  by_cases hil : i < xs.length
  · obtain ⟨x, hu⟩ : ∃ x, xs[i]? = some x := ⟨_, List.getElem?_eq_getElem hil⟩
    obtain ⟨ao2, cap2, e2, hc⟩ := (H.out.below BR.out)
    simp only [Value.slice.injEq, true_and] at e2
    obtain ⟨rfl, rfl⟩ := e2
    obtain ⟨g, o, rfl, c0⟩ := hc i x hu
    have hxr := HX.out x (List.mem_of_getElem? hu)
    have TS := Lib.hid (show rowCells ((xs.take (i + 1)).map np) = rowCells ((xs.take i).map np) ++ pairCells (np x) by rw [List.take_add_one, hu, Option.toList_some, List.map_append, ← rowCells_snoc]; rfl)
    clear hc hu
    go_wp2_with fail
    with_reducible refine (lval _ _).mono ?_
    rintro e w2 ⟨rfl, hb2⟩
    have B2 := Lib.hid (below_tr BR.out hb2)
    have O2 := Lib.hid (own_below O.out hb2)
    have NW := Lib.hid (news_new w2 #[.int .i64 1, .int .i64 x, .string ⟨#[]⟩, .slice none 0 0] 26)
    clear hb2 hxr
    go_wp2_with (at_builtin; refine wpList_append_own _ rfl _ _ 24 rfl w.heap.size 26 i0 _ 4 56 Try.underlying24 hi0 hz0 hz1 hz2 rfl (by decide) (.slice rao i rcap) i (rowCells ((xs.take i).map np)) rfl (O2.out.alloc _) ⟨w2.heap.size, 0, none⟩ 1 1 [.int .i64 1, .int .i64 x, .string ⟨#[]⟩, .slice none 0 0] rfl rfl ?a1 ?b1 ?c1 ?d1 ?e1 ?_)
    try case a1 => exact NW.out
    case b1 => simp [Value.oneCell']
    case c1 => unfold maxLen; omega
    case d1 => omega
    case e1 => have := B2.out.size; simp; omega
    intro v' w6 hown hgrow _
    have BZ := Lib.hid (below_grown B2.out hgrow (fun k hk => (World.ownsRow.lt O.out k hk).1))
    have OZ := Lib.hid (show w6.ownsRow w.heap.size 26 4 v' (i + 1) (rowCells ((xs.take (i + 1)).map np)) by rw [TS.out, List.map_take]; exact hown)
    clear hown hgrow
    go_wp2_with fail
    go_roundg (xs.length - (i + 1))
    case rel => exact ⟨i + 1, rfl, Nat.le_refl _, hil, BZ.out, OZ.out⟩
    case measure => have := HM.out; omega
  have ei : i = xs.length := by omega
  have RD := Lib.hid (np_rd (by have h := O.out; rw [ei, List.take_length] at h; exact h) (by omega))
  subst ei
  clear hil hi HM O i0 hi0 hz0 hz1 hz2
  have LL := Lib.hid (vlist_ok wr _ _ _ RD.out (may_nums HC.out.1))
  have hnl : ¬ (64 : Int) < (xs.length : Int) := by have := HC.out.1; omega
  go_wp2_with fail
  refine LL.out.mono ?_
  rintro e w2 ⟨lv, rfl, hin, hb⟩
  have R2 := Lib.hid hin.rd
  have K := Lib.hid (kept_tr BR.out hb)
  obtain ⟨lo, lc, rfl⟩ := hin.rd.shape
  have LN := Lib.hid (show (xs.map vnum).length = xs.length by rw [List.length_map])
  clear hb hin RD
  generalize hnl1 : xs.map vnum = ls at *
  have LS := Lib.hid hnl1
  clear hnl1
  go_wp2_with fail
  have X := Lib.hid (show VBlk (w2.alloc (.cells #[.int .i64 4, .int .i64 0, .string ⟨#[]⟩, .slice lo ls.length lc] 26)) w2.heap.size (VL.mk 4 0 ⟨#[]⟩ ls) (.slice lo ls.length lc) from VBlk.new w2 (VL.mk 4 0 ⟨#[]⟩ ls) (.slice lo ls.length lc))
  replace K := Lib.hid (kept_al K.out (.cells #[.int .i64 4, .int .i64 0, .string ⟨#[]⟩, .slice lo ls.length lc] 26))
  replace R2 := Lib.hid (R2.out.below (below_al (Below.refl _ _) (.cells #[.int .i64 4, .int .i64 0, .string ⟨#[]⟩, .slice lo ls.length lc] 26)))
  generalize w2.alloc (.cells #[.int .i64 4, .int .i64 0, .string ⟨#[]⟩, .slice lo ls.length lc] 26) = v2 at *
  generalize w2.heap.size = GX at X ⊢
  have TI := Lib.hid (fun V (hV : Below v2.heap.size v2 V) => t_index_none V ls (.slice lo ls.length lc) a (R2.out.below hV) (by have := HC.out.2; rw [LN.out]; exact this))
  go_cut [11, 12] (fun s11 s12 wx => ∃ gx : Nat, s11 = .pointer (some ⟨gx, 0, none⟩) ∧ s12 = .int .i64 2 ∧ AtBlk wx gx 0 ∧ Below v2.heap.size v2 wx)
  case first =>
    refine reg11 X TI ?_
    intro y50 y51 y52 y53 y54 y55 y56 gx wx hwx hat
    dsimp only
    go_wp2
    go_meet
    case rel => exact ⟨gx, rfl, rfl, hat, hwx⟩
  case rest =>
  obtain ⟨gx, rfl, rfl, hat, hbx⟩ := hcut
  replace X := Lib.hid (X.out.below hbx)
  replace K := Lib.hid (kept_tr K.out hbx)
  have AT := Lib.hid hat
  have HW := Lib.hid (H.out.below K.out)
  clear hbx hat
  obtain ⟨x0, x1, x2, x3⟩ := X.out.cells
  have xl := X.out.lt
  have hlen : ((ls.length : Int) != (xs.length : Int)) = false := by rw [LN.out]; simp
  have LH := Lib.hid hlen
  clear HW
  by_cases h0 : 0 ≤ a
  · have h1 : ¬ a < (xs.length : Int) := by have := HC.out.2; omega
    go_wp2_with fail
    refine (lnum _ _).mono ?_
    rintro e w' ⟨rfl, rfl⟩
    go_wp2_with fail
    refine (lnum _ _).mono ?_
    rintro e w' ⟨rfl, rfl⟩
    clear x0 x1 x2 x3 xl hlen X R2 TI AT
    have KC := K
    go_wp2_with fail
    have GB := Lib.hid (heap_alloc_new wc (.cells #[.int .i64 4, .int .i64 0, .string ⟨#[]⟩, .slice none 0 0] 26))
    replace K := Lib.hid (kept_al K.out (.cells #[.int .i64 4, .int .i64 0, .string ⟨#[]⟩, .slice none 0 0] 26))
    have GL := Lib.hid (show w.heap.size ≤ wc.heap.size from (show Below w.heap.size w wc from KC.out).size)
    have GS := Lib.hid (show wc.heap.size < (wc.alloc (.cells #[.int .i64 4, .int .i64 0, .string ⟨#[]⟩, .slice none 0 0] 26)).heap.size by simp)
    generalize wc.alloc (.cells #[.int .i64 4, .int .i64 0, .string ⟨#[]⟩, .slice none 0 0] 26) = wa at *
    generalize wc.heap.size = G at GB GL GS ⊢
    have hmod : ((n : Int) % 70) = ((n % 70 : Nat) : Int) := by omega
    have hk70 : n % 70 < 70 := Nat.mod_lt _ (by omega)
    generalize n % 70 = k at hmod hk70 ⊢
    go_loopg [14] k (fun m iv wr => ∃ (i j : Nat) (lv : Value), iv = .int .i64 i ∧ k - i ≤ m ∧ Hid (i = j + 1) ∧ (i ≤ k ∨ i = 1) ∧ i ≤ 100 ∧ Below w.heap.size w wr ∧ G < wr.heap.size ∧ wr.heap[G]? = some (.cells #[.int .i64 4, .int .i64 0, .string ⟨#[]⟩, lv] 26 (0, 0)) ∧ RowIn wr (fun b => b ≠ G) j (deepV j).kids lv)
    case atStart => exact ⟨1, 0, .slice none 0 0, rfl, by omega, Lib.hid rfl, .inr rfl, by omega, K.out, GS.out, GB.out, ⟨rfl, _, _, rfl⟩⟩
    case round =>
      obtain ⟨i, j, lv, rfl, hm, IJ, hik, hi9, hb, hgs, hgb, hin⟩ := hrel
      obtain ⟨lo, lc, rfl⟩ := hin.rd.shape
      have HM := Lib.hid hm
      have IK := Lib.hid hik
      have BR := Lib.hid hb
      have HB := Lib.hid hgb
      have IN := Lib.hid hin
      have HS := Lib.hid hgs
      have hgs2 : G < wr.heap.size := hgs
      have x0 := cell_of_row wr G 0 _ _ _ hgb
      have x1 := cell_of_row wr G 1 _ _ _ hgb
      have x2 := cell_of_row wr G 2 _ _ _ hgb
      have x3 := cell_of_row wr G 3 _ _ _ hgb
      replace x0 : wr.cell? ⟨G, 0, none⟩ = some (.int .i64 4) := x0
      replace x1 : wr.cell? ⟨G, 1, none⟩ = some (.int .i64 0) := x1
      replace x2 : wr.cell? ⟨G, 2, none⟩ = some (.string ⟨#[]⟩) := x2
      replace x3 : wr.cell? ⟨G, 3, none⟩ = some (.slice lo (deepV j).kids.length lc) := x3
      have f0 : wr.frozen? ⟨G, 0, none⟩ = false := by simp [World.frozen?, hgb]
      have f1 : wr.frozen? ⟨G, 1, none⟩ = false := by simp [World.frozen?, hgb]
      have f2 : wr.frozen? ⟨G, 2, none⟩ = false := by simp [World.frozen?, hgb]
      have f3 : wr.frozen? ⟨G, 3, none⟩ = false := by simp [World.frozen?, hgb]
      clear hm hik hb hgb hin
      have DK : (deepV j).kids.length ≤ 1 := by cases j <;> simp [deepV, vlist, VL.kids]
      by_cases hil : i < k
      · have S4 : ((((wr.setCell ⟨G, 0, none⟩ (.int .i64 4)).setCell ⟨G, 1, none⟩ (.int .i64 0)).setCell ⟨G, 2, none⟩ (.string ⟨#[]⟩)).setCell ⟨G, 3, none⟩ (.slice (some ⟨wr.heap.size, 0, none⟩) 1 1)).heap.size = wr.heap.size := by simp [World.setCell]
        have BN := Lib.hid (show Below w.heap.size w (((((wr.setCell ⟨G, 0, none⟩ (.int .i64 4)).setCell ⟨G, 1, none⟩ (.int .i64 0)).setCell ⟨G, 2, none⟩ (.string ⟨#[]⟩)).setCell ⟨G, 3, none⟩ (.slice (some ⟨wr.heap.size, 0, none⟩) 1 1)).alloc (.cells #[.int .i64 4, .int .i64 0, .string ⟨#[]⟩, .slice lo (deepV j).kids.length lc] 26)) from below_al (below_set4 BR.out GL.out _ _ _ _) _)
        have SG := Lib.hid (show G < ((((wr.setCell ⟨G, 0, none⟩ (.int .i64 4)).setCell ⟨G, 1, none⟩ (.int .i64 0)).setCell ⟨G, 2, none⟩ (.string ⟨#[]⟩)).setCell ⟨G, 3, none⟩ (.slice (some ⟨wr.heap.size, 0, none⟩) 1 1)).heap.size by rw [S4]; exact HS.out)
        have HN := Lib.hid (show (((((wr.setCell ⟨G, 0, none⟩ (.int .i64 4)).setCell ⟨G, 1, none⟩ (.int .i64 0)).setCell ⟨G, 2, none⟩ (.string ⟨#[]⟩)).setCell ⟨G, 3, none⟩ (.slice (some ⟨wr.heap.size, 0, none⟩) 1 1)).alloc (.cells #[.int .i64 4, .int .i64 0, .string ⟨#[]⟩, .slice lo (deepV j).kids.length lc] 26)).heap[G]? = some (.cells #[.int .i64 4, .int .i64 0, .string ⟨#[]⟩, .slice (some ⟨wr.heap.size, 0, none⟩) 1 1] 26 (0, 0)) from (Below.block (below_al (Below.refl _ _) _) G SG.out).trans (blk_set4 HB.out _ _ _ _))
        have SZ := Lib.hid (show G < (((((wr.setCell ⟨G, 0, none⟩ (.int .i64 4)).setCell ⟨G, 1, none⟩ (.int .i64 0)).setCell ⟨G, 2, none⟩ (.string ⟨#[]⟩)).setCell ⟨G, 3, none⟩ (.slice (some ⟨wr.heap.size, 0, none⟩) 1 1)).alloc (.cells #[.int .i64 4, .int .i64 0, .string ⟨#[]⟩, .slice lo (deepV j).kids.length lc] 26)).heap.size by have := SG.out; rw [show (((((wr.setCell ⟨G, 0, none⟩ (.int .i64 4)).setCell ⟨G, 1, none⟩ (.int .i64 0)).setCell ⟨G, 2, none⟩ (.string ⟨#[]⟩)).setCell ⟨G, 3, none⟩ (.slice (some ⟨wr.heap.size, 0, none⟩) 1 1)).alloc (.cells #[.int .i64 4, .int .i64 0, .string ⟨#[]⟩, .slice lo (deepV j).kids.length lc] 26)).heap.size = ((((wr.setCell ⟨G, 0, none⟩ (.int .i64 4)).setCell ⟨G, 1, none⟩ (.int .i64 0)).setCell ⟨G, 2, none⟩ (.string ⟨#[]⟩)).setCell ⟨G, 3, none⟩ (.slice (some ⟨wr.heap.size, 0, none⟩) 1 1)).heap.size + 1 by simp]; omega)
        have NB := Lib.hid (show (((((wr.setCell ⟨G, 0, none⟩ (.int .i64 4)).setCell ⟨G, 1, none⟩ (.int .i64 0)).setCell ⟨G, 2, none⟩ (.string ⟨#[]⟩)).setCell ⟨G, 3, none⟩ (.slice (some ⟨wr.heap.size, 0, none⟩) 1 1)).alloc (.cells #[.int .i64 4, .int .i64 0, .string ⟨#[]⟩, .slice lo (deepV j).kids.length lc] 26)).heap[wr.heap.size]? = some (.cells #[.int .i64 4, .int .i64 0, .string ⟨#[]⟩, .slice lo (deepV j).kids.length lc] 26 (0, 0)) from heap_at S4.symm)
        have IW := Lib.hid (show RowIn (((((wr.setCell ⟨G, 0, none⟩ (.int .i64 4)).setCell ⟨G, 1, none⟩ (.int .i64 0)).setCell ⟨G, 2, none⟩ (.string ⟨#[]⟩)).setCell ⟨G, 3, none⟩ (.slice (some ⟨wr.heap.size, 0, none⟩) 1 1)).alloc (.cells #[.int .i64 4, .int .i64 0, .string ⟨#[]⟩, .slice lo (deepV j).kids.length lc] 26)) (fun b => b ≠ G) j (deepV j).kids (.slice lo (deepV j).kids.length lc) from RowIn.keep (fun _ h => h) (fun b o z _ hz => hold (below_al (Below.refl _ _) _) hz) (set4_in IN.out (fun h => h rfl) _ _ _ _))
        have ROW := Lib.hid (deep_row (n := j) NB.out (by have := HS.out; omega) IW.out)
        clear S4
        go_wp2_with fail
        go_roundg (k - (i + 1))
        case rel => exact ⟨i + 1, j + 1, .slice (some ⟨wr.heap.size, 0, none⟩) 1 1, rfl, Nat.le_refl _, Lib.hid (by rw [IJ.out]), .inl hil, by omega, BN.out, SZ.out, HN.out, ROW.out⟩
        case measure => have := HM.out; omega
      · have ki : k ≤ i := by omega
        obtain ⟨e1, e2, e3⟩ := deep_kind j
        have MY := Lib.hid (fun W (hw : Below wr.heap.size wr W) => by have h := vMay W j (deepV j) _ (IN.out.rd.below hw); rw [e1, e2, e3] at h; exact h)
        have MD := may_deep 64 j
        have ME := may_deep 64 (j + 1)
        have RW := Lib.hid (IN.out.rd)
        clear f0 f1 f2 f3 e1 e2 e3
        by_cases h64 : 64 < k
        · rw [decide_eq_false (by have := IJ.out; have := IK.out; omega)] at MD
          rw [MD] at MY
          clear MD ME
          have hlt : (64 : Int) < (k : Int) := by omega
          go_wp2_with fail
          refine (MY.out _ (Below.refl _ _)).mono ?_
          rintro e w8 ⟨rfl, hb⟩
          have KZ := Lib.hid (kept_tr BR.out hb)
          clear hb
          go_wp2_with fail
          refine (law_awake _).mono ?_
          rintro e w9 ⟨rfl, hb⟩
          replace KZ := Lib.hid (kept_tr KZ.out hb)
          clear hb
          go_wp2_with fail
          go_ret
          exact ⟨rfl, KZ.out⟩
        · have hnlt : ¬ (64 : Int) < (k : Int) := by omega
          rw [decide_eq_true (by have := IJ.out; have := IK.out; omega)] at MD
          rw [MD] at MY
          have NB := Lib.hid (heap_alloc_new wr (.cells #[.int .i64 4, .int .i64 0, .string ⟨#[]⟩, .slice lo (deepV j).kids.length lc] 26))
          have R1 := Lib.hid (row_one (v := deepV j) (lv := .slice lo (deepV j).kids.length lc) (g := wr.heap.size) (w := wr.alloc (.cells #[.int .i64 4, .int .i64 0, .string ⟨#[]⟩, .slice lo (deepV j).kids.length lc] 26)) (by obtain ⟨e1, e2, e3⟩ := deep_kind j; rw [e1, e2, e3]; exact NB.out) (RW.out.below (below_al (Below.refl _ _) _)))
          have BN := Lib.hid (below_al BR.out (.cells #[.int .i64 4, .int .i64 0, .string ⟨#[]⟩, .slice lo (deepV j).kids.length lc] 26))
          have BM := Lib.hid (below_al (Below.refl wr.heap.size wr) (.cells #[.int .i64 4, .int .i64 0, .string ⟨#[]⟩, .slice lo (deepV j).kids.length lc] 26))
          have XB := Lib.hid (Below.block BM.out G HS.out)
          clear MD
          by_cases hok : j + 1 < 64
          · have LL := Lib.hid (fun W (hw : Below (wr.alloc (.cells #[.int .i64 4, .int .i64 0, .string ⟨#[]⟩, .slice lo (deepV j).kids.length lc] 26)).heap.size (wr.alloc (.cells #[.int .i64 4, .int .i64 0, .string ⟨#[]⟩, .slice lo (deepV j).kids.length lc] 26)) W) => vlist_ok W _ _ _ (R1.out.below hw) (show mayB 64 (deepV (j + 1)) = true by rw [ME]; exact decide_eq_true hok))
            clear ME
            by_cases h1k : (1 : Int) < (k : Int)
            · have hkk : (k : Int) < 64 := by have := IJ.out; have := IK.out; omega
              go_wp2_with fail
              refine (LL.out _ (Below.refl _ _)).mono ?_
              rintro e w8 ⟨lv8, rfl, hin8, hb⟩
              obtain ⟨o8, c8, rfl⟩ := hin8.rd.shape
              clear hin8
              have KZ := Lib.hid (kept_tr BN.out hb)
              have B8 := Lib.hid (below_tr BM.out hb)
              have y0 := hold B8.out x0
              have y1 := hold B8.out x1
              have y2 := hold B8.out x2
              have y3 := hold B8.out x3
              have yl := Nat.lt_of_lt_of_le HS.out B8.out.size
              clear hb x0 x1 x2 x3 hgs2
              go_wp2_with fail
              refine (MY.out _ (below_al B8.out _)).mono ?_
              rintro e w9 ⟨rfl, hb⟩
              replace KZ := Lib.hid (kept_tr (kept_al KZ.out _) hb)
              clear hb y0 y1 y2 y3 yl
              go_wp2_with fail
              refine (lnum _ _).mono ?_
              rintro e w' ⟨rfl, rfl⟩
              go_wp2_with fail
              refine (law_awake _).mono ?_
              rintro e wz ⟨rfl, hb⟩
              replace KZ := Lib.hid (kept_tr KZ.out hb)
              clear hb
              go_wp2_with fail
              go_ret
              exact ⟨rfl, KZ.out⟩
            · go_wp2_with fail
              refine (LL.out _ (Below.refl _ _)).mono ?_
              rintro e w8 ⟨lv8, rfl, hin8, hb⟩
              obtain ⟨o8, c8, rfl⟩ := hin8.rd.shape
              clear hin8
              have KZ := Lib.hid (kept_tr BN.out hb)
              have B8 := Lib.hid (below_tr BM.out hb)
              have y0 := hold B8.out x0
              have y1 := hold B8.out x1
              have y2 := hold B8.out x2
              have y3 := hold B8.out x3
              have yl := Nat.lt_of_lt_of_le HS.out B8.out.size
              clear hb x0 x1 x2 x3 hgs2
              go_wp2_with fail
              refine (MY.out _ (below_al B8.out _)).mono ?_
              rintro e w9 ⟨rfl, hb⟩
              replace KZ := Lib.hid (kept_tr (kept_al KZ.out _) hb)
              clear hb y0 y1 y2 y3 yl
              go_wp2_with fail
              refine (lnum _ _).mono ?_
              rintro e w' ⟨rfl, rfl⟩
              go_wp2_with fail
              refine (law_awake _).mono ?_
              rintro e wz ⟨rfl, hb⟩
              replace KZ := Lib.hid (kept_tr KZ.out hb)
              clear hb
              go_wp2_with fail
              go_ret
              exact ⟨rfl, KZ.out⟩
          · have LL := Lib.hid (fun W (hw : Below (wr.alloc (.cells #[.int .i64 4, .int .i64 0, .string ⟨#[]⟩, .slice lo (deepV j).kids.length lc] 26)).heap.size (wr.alloc (.cells #[.int .i64 4, .int .i64 0, .string ⟨#[]⟩, .slice lo (deepV j).kids.length lc] 26)) W) => vlist_bad W _ _ _ (R1.out.below hw) (show mayB 64 (deepV (j + 1)) = false by rw [ME]; exact decide_eq_false hok))
            clear ME
            by_cases h1k : (1 : Int) < (k : Int)
            · have hkk : ¬ (k : Int) < 64 := by have := IJ.out; have := IK.out; omega
              go_wp2_with fail
              refine (LL.out _ (Below.refl _ _)).mono ?_
              rintro e w8 ⟨rfl, hb⟩
              have KZ := Lib.hid (kept_tr BN.out hb)
              have B8 := Lib.hid (below_tr BM.out hb)
              have y0 := hold B8.out x0
              have y1 := hold B8.out x1
              have y2 := hold B8.out x2
              have y3 := hold B8.out x3
              have yl := Nat.lt_of_lt_of_le HS.out B8.out.size
              clear hb x0 x1 x2 x3 hgs2
              go_wp2_with fail
              refine (MY.out _ (below_al B8.out _)).mono ?_
              rintro e w9 ⟨rfl, hb⟩
              replace KZ := Lib.hid (kept_tr (kept_al KZ.out _) hb)
              clear hb y0 y1 y2 y3 yl
              go_wp2_with fail
              refine (lnum _ _).mono ?_
              rintro e w' ⟨rfl, rfl⟩
              go_wp2_with fail
              refine (law_awake _).mono ?_
              rintro e wz ⟨rfl, hb⟩
              replace KZ := Lib.hid (kept_tr KZ.out hb)
              clear hb
              go_wp2_with fail
              go_ret
              exact ⟨by rw [show (!decide ((k : Int) < 64)) = true by rw [decide_eq_false (by omega)]; rfl]; rfl, KZ.out⟩
            · exfalso
              have := IJ.out; have := IK.out; omega
  · go_wp2_with fail
    refine (lnum _ _).mono ?_
    rintro e w' ⟨rfl, rfl⟩
    go_wp2_with fail
    refine (lnum _ _).mono ?_
    rintro e w' ⟨rfl, rfl⟩
    clear x0 x1 x2 x3 xl hlen X R2 TI AT
    have KC := K
    go_wp2_with fail
    have GB := Lib.hid (heap_alloc_new wc (.cells #[.int .i64 4, .int .i64 0, .string ⟨#[]⟩, .slice none 0 0] 26))
    replace K := Lib.hid (kept_al K.out (.cells #[.int .i64 4, .int .i64 0, .string ⟨#[]⟩, .slice none 0 0] 26))
    have GL := Lib.hid (show w.heap.size ≤ wc.heap.size from (show Below w.heap.size w wc from KC.out).size)
    have GS := Lib.hid (show wc.heap.size < (wc.alloc (.cells #[.int .i64 4, .int .i64 0, .string ⟨#[]⟩, .slice none 0 0] 26)).heap.size by simp)
    generalize wc.alloc (.cells #[.int .i64 4, .int .i64 0, .string ⟨#[]⟩, .slice none 0 0] 26) = wa at *
    generalize wc.heap.size = G at GB GL GS ⊢
    have hmod : ((n : Int) % 70) = ((n % 70 : Nat) : Int) := by omega
    have hk70 : n % 70 < 70 := Nat.mod_lt _ (by omega)
    generalize n % 70 = k at hmod hk70 ⊢
    go_loopg [14] k (fun m iv wr => ∃ (i j : Nat) (lv : Value), iv = .int .i64 i ∧ k - i ≤ m ∧ Hid (i = j + 1) ∧ (i ≤ k ∨ i = 1) ∧ i ≤ 100 ∧ Below w.heap.size w wr ∧ G < wr.heap.size ∧ wr.heap[G]? = some (.cells #[.int .i64 4, .int .i64 0, .string ⟨#[]⟩, lv] 26 (0, 0)) ∧ RowIn wr (fun b => b ≠ G) j (deepV j).kids lv)
    case atStart => exact ⟨1, 0, .slice none 0 0, rfl, by omega, Lib.hid rfl, .inr rfl, by omega, K.out, GS.out, GB.out, ⟨rfl, _, _, rfl⟩⟩
    case round =>
      obtain ⟨i, j, lv, rfl, hm, IJ, hik, hi9, hb, hgs, hgb, hin⟩ := hrel
      obtain ⟨lo, lc, rfl⟩ := hin.rd.shape
      have HM := Lib.hid hm
      have IK := Lib.hid hik
      have BR := Lib.hid hb
      have HB := Lib.hid hgb
      have IN := Lib.hid hin
      have HS := Lib.hid hgs
      have hgs2 : G < wr.heap.size := hgs
      have x0 := cell_of_row wr G 0 _ _ _ hgb
      have x1 := cell_of_row wr G 1 _ _ _ hgb
      have x2 := cell_of_row wr G 2 _ _ _ hgb
      have x3 := cell_of_row wr G 3 _ _ _ hgb
      replace x0 : wr.cell? ⟨G, 0, none⟩ = some (.int .i64 4) := x0
      replace x1 : wr.cell? ⟨G, 1, none⟩ = some (.int .i64 0) := x1
      replace x2 : wr.cell? ⟨G, 2, none⟩ = some (.string ⟨#[]⟩) := x2
      replace x3 : wr.cell? ⟨G, 3, none⟩ = some (.slice lo (deepV j).kids.length lc) := x3
      have f0 : wr.frozen? ⟨G, 0, none⟩ = false := by simp [World.frozen?, hgb]
      have f1 : wr.frozen? ⟨G, 1, none⟩ = false := by simp [World.frozen?, hgb]
      have f2 : wr.frozen? ⟨G, 2, none⟩ = false := by simp [World.frozen?, hgb]
      have f3 : wr.frozen? ⟨G, 3, none⟩ = false := by simp [World.frozen?, hgb]
      clear hm hik hb hgb hin
      have DK : (deepV j).kids.length ≤ 1 := by cases j <;> simp [deepV, vlist, VL.kids]
      by_cases hil : i < k
      · have S4 : ((((wr.setCell ⟨G, 0, none⟩ (.int .i64 4)).setCell ⟨G, 1, none⟩ (.int .i64 0)).setCell ⟨G, 2, none⟩ (.string ⟨#[]⟩)).setCell ⟨G, 3, none⟩ (.slice (some ⟨wr.heap.size, 0, none⟩) 1 1)).heap.size = wr.heap.size := by simp [World.setCell]
        have BN := Lib.hid (show Below w.heap.size w (((((wr.setCell ⟨G, 0, none⟩ (.int .i64 4)).setCell ⟨G, 1, none⟩ (.int .i64 0)).setCell ⟨G, 2, none⟩ (.string ⟨#[]⟩)).setCell ⟨G, 3, none⟩ (.slice (some ⟨wr.heap.size, 0, none⟩) 1 1)).alloc (.cells #[.int .i64 4, .int .i64 0, .string ⟨#[]⟩, .slice lo (deepV j).kids.length lc] 26)) from below_al (below_set4 BR.out GL.out _ _ _ _) _)
        have SG := Lib.hid (show G < ((((wr.setCell ⟨G, 0, none⟩ (.int .i64 4)).setCell ⟨G, 1, none⟩ (.int .i64 0)).setCell ⟨G, 2, none⟩ (.string ⟨#[]⟩)).setCell ⟨G, 3, none⟩ (.slice (some ⟨wr.heap.size, 0, none⟩) 1 1)).heap.size by rw [S4]; exact HS.out)
        have HN := Lib.hid (show (((((wr.setCell ⟨G, 0, none⟩ (.int .i64 4)).setCell ⟨G, 1, none⟩ (.int .i64 0)).setCell ⟨G, 2, none⟩ (.string ⟨#[]⟩)).setCell ⟨G, 3, none⟩ (.slice (some ⟨wr.heap.size, 0, none⟩) 1 1)).alloc (.cells #[.int .i64 4, .int .i64 0, .string ⟨#[]⟩, .slice lo (deepV j).kids.length lc] 26)).heap[G]? = some (.cells #[.int .i64 4, .int .i64 0, .string ⟨#[]⟩, .slice (some ⟨wr.heap.size, 0, none⟩) 1 1] 26 (0, 0)) from (Below.block (below_al (Below.refl _ _) _) G SG.out).trans (blk_set4 HB.out _ _ _ _))
        have SZ := Lib.hid (show G < (((((wr.setCell ⟨G, 0, none⟩ (.int .i64 4)).setCell ⟨G, 1, none⟩ (.int .i64 0)).setCell ⟨G, 2, none⟩ (.string ⟨#[]⟩)).setCell ⟨G, 3, none⟩ (.slice (some ⟨wr.heap.size, 0, none⟩) 1 1)).alloc (.cells #[.int .i64 4, .int .i64 0, .string ⟨#[]⟩, .slice lo (deepV j).kids.length lc] 26)).heap.size by have := SG.out; rw [show (((((wr.setCell ⟨G, 0, none⟩ (.int .i64 4)).setCell ⟨G, 1, none⟩ (.int .i64 0)).setCell ⟨G, 2, none⟩ (.string ⟨#[]⟩)).setCell ⟨G, 3, none⟩ (.slice (some ⟨wr.heap.size, 0, none⟩) 1 1)).alloc (.cells #[.int .i64 4, .int .i64 0, .string ⟨#[]⟩, .slice lo (deepV j).kids.length lc] 26)).heap.size = ((((wr.setCell ⟨G, 0, none⟩ (.int .i64 4)).setCell ⟨G, 1, none⟩ (.int .i64 0)).setCell ⟨G, 2, none⟩ (.string ⟨#[]⟩)).setCell ⟨G, 3, none⟩ (.slice (some ⟨wr.heap.size, 0, none⟩) 1 1)).heap.size + 1 by simp]; omega)
        have NB := Lib.hid (show (((((wr.setCell ⟨G, 0, none⟩ (.int .i64 4)).setCell ⟨G, 1, none⟩ (.int .i64 0)).setCell ⟨G, 2, none⟩ (.string ⟨#[]⟩)).setCell ⟨G, 3, none⟩ (.slice (some ⟨wr.heap.size, 0, none⟩) 1 1)).alloc (.cells #[.int .i64 4, .int .i64 0, .string ⟨#[]⟩, .slice lo (deepV j).kids.length lc] 26)).heap[wr.heap.size]? = some (.cells #[.int .i64 4, .int .i64 0, .string ⟨#[]⟩, .slice lo (deepV j).kids.length lc] 26 (0, 0)) from heap_at S4.symm)
        have IW := Lib.hid (show RowIn (((((wr.setCell ⟨G, 0, none⟩ (.int .i64 4)).setCell ⟨G, 1, none⟩ (.int .i64 0)).setCell ⟨G, 2, none⟩ (.string ⟨#[]⟩)).setCell ⟨G, 3, none⟩ (.slice (some ⟨wr.heap.size, 0, none⟩) 1 1)).alloc (.cells #[.int .i64 4, .int .i64 0, .string ⟨#[]⟩, .slice lo (deepV j).kids.length lc] 26)) (fun b => b ≠ G) j (deepV j).kids (.slice lo (deepV j).kids.length lc) from RowIn.keep (fun _ h => h) (fun b o z _ hz => hold (below_al (Below.refl _ _) _) hz) (set4_in IN.out (fun h => h rfl) _ _ _ _))
        have ROW := Lib.hid (deep_row (n := j) NB.out (by have := HS.out; omega) IW.out)
        clear S4
        go_wp2_with fail
        go_roundg (k - (i + 1))
        case rel => exact ⟨i + 1, j + 1, .slice (some ⟨wr.heap.size, 0, none⟩) 1 1, rfl, Nat.le_refl _, Lib.hid (by rw [IJ.out]), .inl hil, by omega, BN.out, SZ.out, HN.out, ROW.out⟩
        case measure => have := HM.out; omega
      · have ki : k ≤ i := by omega
        obtain ⟨e1, e2, e3⟩ := deep_kind j
        have MY := Lib.hid (fun W (hw : Below wr.heap.size wr W) => by have h := vMay W j (deepV j) _ (IN.out.rd.below hw); rw [e1, e2, e3] at h; exact h)
        have MD := may_deep 64 j
        have ME := may_deep 64 (j + 1)
        have RW := Lib.hid (IN.out.rd)
        clear f0 f1 f2 f3 e1 e2 e3
        by_cases h64 : 64 < k
        · rw [decide_eq_false (by have := IJ.out; have := IK.out; omega)] at MD
          rw [MD] at MY
          clear MD ME
          have hlt : (64 : Int) < (k : Int) := by omega
          go_wp2_with fail
          refine (MY.out _ (Below.refl _ _)).mono ?_
          rintro e w8 ⟨rfl, hb⟩
          have KZ := Lib.hid (kept_tr BR.out hb)
          clear hb
          go_wp2_with fail
          refine (law_awake _).mono ?_
          rintro e w9 ⟨rfl, hb⟩
          replace KZ := Lib.hid (kept_tr KZ.out hb)
          clear hb
          go_wp2_with fail
          go_ret
          exact ⟨rfl, KZ.out⟩
        · have hnlt : ¬ (64 : Int) < (k : Int) := by omega
          rw [decide_eq_true (by have := IJ.out; have := IK.out; omega)] at MD
          rw [MD] at MY
          have NB := Lib.hid (heap_alloc_new wr (.cells #[.int .i64 4, .int .i64 0, .string ⟨#[]⟩, .slice lo (deepV j).kids.length lc] 26))
          have R1 := Lib.hid (row_one (v := deepV j) (lv := .slice lo (deepV j).kids.length lc) (g := wr.heap.size) (w := wr.alloc (.cells #[.int .i64 4, .int .i64 0, .string ⟨#[]⟩, .slice lo (deepV j).kids.length lc] 26)) (by obtain ⟨e1, e2, e3⟩ := deep_kind j; rw [e1, e2, e3]; exact NB.out) (RW.out.below (below_al (Below.refl _ _) _)))
          have BN := Lib.hid (below_al BR.out (.cells #[.int .i64 4, .int .i64 0, .string ⟨#[]⟩, .slice lo (deepV j).kids.length lc] 26))
          have BM := Lib.hid (below_al (Below.refl wr.heap.size wr) (.cells #[.int .i64 4, .int .i64 0, .string ⟨#[]⟩, .slice lo (deepV j).kids.length lc] 26))
          have XB := Lib.hid (Below.block BM.out G HS.out)
          clear MD
          by_cases hok : j + 1 < 64
          · have LL := Lib.hid (fun W (hw : Below (wr.alloc (.cells #[.int .i64 4, .int .i64 0, .string ⟨#[]⟩, .slice lo (deepV j).kids.length lc] 26)).heap.size (wr.alloc (.cells #[.int .i64 4, .int .i64 0, .string ⟨#[]⟩, .slice lo (deepV j).kids.length lc] 26)) W) => vlist_ok W _ _ _ (R1.out.below hw) (show mayB 64 (deepV (j + 1)) = true by rw [ME]; exact decide_eq_true hok))
            clear ME
            by_cases h1k : (1 : Int) < (k : Int)
            · have hkk : (k : Int) < 64 := by have := IJ.out; have := IK.out; omega
              go_wp2_with fail
              refine (LL.out _ (Below.refl _ _)).mono ?_
              rintro e w8 ⟨lv8, rfl, hin8, hb⟩
              obtain ⟨o8, c8, rfl⟩ := hin8.rd.shape
              clear hin8
              have KZ := Lib.hid (kept_tr BN.out hb)
              have B8 := Lib.hid (below_tr BM.out hb)
              have y0 := hold B8.out x0
              have y1 := hold B8.out x1
              have y2 := hold B8.out x2
              have y3 := hold B8.out x3
              have yl := Nat.lt_of_lt_of_le HS.out B8.out.size
              clear hb x0 x1 x2 x3 hgs2
              go_wp2_with fail
              refine (MY.out _ (below_al B8.out _)).mono ?_
              rintro e w9 ⟨rfl, hb⟩
              replace KZ := Lib.hid (kept_tr (kept_al KZ.out _) hb)
              clear hb y0 y1 y2 y3 yl
              go_wp2_with fail
              refine (lnum _ _).mono ?_
              rintro e w' ⟨rfl, rfl⟩
              go_wp2_with fail
              refine (law_awake _).mono ?_
              rintro e wz ⟨rfl, hb⟩
              replace KZ := Lib.hid (kept_tr KZ.out hb)
              clear hb
              go_wp2_with fail
              go_ret
              exact ⟨rfl, KZ.out⟩
            · go_wp2_with fail
              refine (LL.out _ (Below.refl _ _)).mono ?_
              rintro e w8 ⟨lv8, rfl, hin8, hb⟩
              obtain ⟨o8, c8, rfl⟩ := hin8.rd.shape
              clear hin8
              have KZ := Lib.hid (kept_tr BN.out hb)
              have B8 := Lib.hid (below_tr BM.out hb)
              have y0 := hold B8.out x0
              have y1 := hold B8.out x1
              have y2 := hold B8.out x2
              have y3 := hold B8.out x3
              have yl := Nat.lt_of_lt_of_le HS.out B8.out.size
              clear hb x0 x1 x2 x3 hgs2
              go_wp2_with fail
              refine (MY.out _ (below_al B8.out _)).mono ?_
              rintro e w9 ⟨rfl, hb⟩
              replace KZ := Lib.hid (kept_tr (kept_al KZ.out _) hb)
              clear hb y0 y1 y2 y3 yl
              go_wp2_with fail
              refine (lnum _ _).mono ?_
              rintro e w' ⟨rfl, rfl⟩
              go_wp2_with fail
              refine (law_awake _).mono ?_
              rintro e wz ⟨rfl, hb⟩
              replace KZ := Lib.hid (kept_tr KZ.out hb)
              clear hb
              go_wp2_with fail
              go_ret
              exact ⟨rfl, KZ.out⟩
          · have LL := Lib.hid (fun W (hw : Below (wr.alloc (.cells #[.int .i64 4, .int .i64 0, .string ⟨#[]⟩, .slice lo (deepV j).kids.length lc] 26)).heap.size (wr.alloc (.cells #[.int .i64 4, .int .i64 0, .string ⟨#[]⟩, .slice lo (deepV j).kids.length lc] 26)) W) => vlist_bad W _ _ _ (R1.out.below hw) (show mayB 64 (deepV (j + 1)) = false by rw [ME]; exact decide_eq_false hok))
            clear ME
            by_cases h1k : (1 : Int) < (k : Int)
            · have hkk : ¬ (k : Int) < 64 := by have := IJ.out; have := IK.out; omega
              go_wp2_with fail
              refine (LL.out _ (Below.refl _ _)).mono ?_
              rintro e w8 ⟨rfl, hb⟩
              have KZ := Lib.hid (kept_tr BN.out hb)
              have B8 := Lib.hid (below_tr BM.out hb)
              have y0 := hold B8.out x0
              have y1 := hold B8.out x1
              have y2 := hold B8.out x2
              have y3 := hold B8.out x3
              have yl := Nat.lt_of_lt_of_le HS.out B8.out.size
              clear hb x0 x1 x2 x3 hgs2
              go_wp2_with fail
              refine (MY.out _ (below_al B8.out _)).mono ?_
              rintro e w9 ⟨rfl, hb⟩
              replace KZ := Lib.hid (kept_tr (kept_al KZ.out _) hb)
              clear hb y0 y1 y2 y3 yl
              go_wp2_with fail
              refine (lnum _ _).mono ?_
              rintro e w' ⟨rfl, rfl⟩
              go_wp2_with fail
              refine (law_awake _).mono ?_
              rintro e wz ⟨rfl, hb⟩
              replace KZ := Lib.hid (kept_tr KZ.out hb)
              clear hb
              go_wp2_with fail
              go_ret
              exact ⟨by rw [show (!decide ((k : Int) < 64)) = true by rw [decide_eq_false (by omega)]; rfl]; rfl, KZ.out⟩
            · exfalso
              have := IJ.out; have := IK.out; omega
theorem law_vlists (v : Value) (xs : List Int) (a z : Int) (h : NumsRd .i16 w v xs) (hx : ∀ x ∈ xs, -32768 ≤ x ∧ x ≤ 32767) (hl : xs.length ≤ maxLen) (ha : -9223372036854775808 ≤ a ∧ a ≤ 9223372036854775807) (hz : 0 ≤ z ∧ z ≤ 255) :
    Calls Try.prog 4 #[v, .int .i64 a, .int .u8 z] w (Made (.bool true) w) := by
  obtain ⟨n, rfl⟩ : ∃ n : Nat, z = (n : Int) := ⟨z.toNat, by omega⟩
  by_cases h80 : 80 < xs.length
  · obtain ⟨ao, cap, rfl⟩ := h.shape
    unfold maxLen at hl
    clear h hx ha hz
    go_enter Try.func4, Try.ntmps4
    go_wp2_with fail
    refine (law_awake _).mono ?_
    rintro e w2 ⟨rfl, hb⟩
    go_wp2_with fail
    go_ret
    exact ⟨rfl, hb⟩
  · by_cases h64 : 64 < xs.length
    · exact vlists_long w v xs a n h hx (by omega) ha (by omega) h64
    · by_cases hat : 0 ≤ a ∧ a < (xs.length : Int)
      · exact vlists_at w v xs a n h hx (by omega) ha (by omega) ⟨by omega, hat.1, hat.2⟩
      · exact vlists_out w v xs a n h hx (by omega) ha (by omega) ⟨by omega, by omega⟩
end
end Go.Proofs.Ytihlbnflgjidaaa
