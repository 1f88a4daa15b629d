/- The law of lists, walked. -/
import Derived.Test.YtihlbnflgjidaabDoorFunLa
namespace Go.Proofs.YtihlbnflgjidaabDoor
open Go.RowKit
set_option linter.unusedVariables false
set_option linter.unusedSimpArgs false

section
variable (w : World)
set_option maxHeartbeats 8000000 in
set_option maxRecDepth 100000 in
theorem lists_ok_neg (va vb : Value) (xs ys : List Int) (n : Int) (ha : NumsRd .i32 w va xs) (hb : NumsRd .i32 w vb ys) (hx : ∀ x ∈ xs, -2147483648 ≤ x ∧ x ≤ 2147483647) (hy : ∀ x ∈ ys, -2147483648 ≤ x ∧ x ≤ 2147483647)
    (hn16 : -32768 ≤ n ∧ n ≤ 32767) (hxl : xs.length ≤ 50) (hyl : ys.length ≤ 50) (h64 : xs.length + ys.length ≤ 64) (hn : n < 0) :
    Calls Tryd.prog 3 #[va, vb, .int .i16 n] w (Made (.bool true) w) := by
  have HA := Lib.hid ha
  have HB := Lib.hid hb
  have LA := Lib.hid (fun W (hw : Below w.heap.size w W) => flist W va xs (ha.below hw) (by omega) hx)
  have LB := Lib.hid (fun W (hw : Below w.heap.size w W) => flist W vb ys (hb.below hw) (by omega) hy)
  have TC := Lib.hid (fun W va vb ra rb g hg => by have h := t_concat W xs ys va vb ra rb g hg (by omega) (by omega); rw [if_pos h64, if_pos h64, if_pos h64] at h; exact h)
  have TR := Lib.hid (fun W g hg => by have h := t_range W n g hg; rw [if_pos (.inl hn), if_pos (.inl hn), if_pos hn] at h; exact h)
  obtain ⟨ao, acap, rfl⟩ := ha.shape
  obtain ⟨bo, bcap, rfl⟩ := hb.shape
  have AL := Lib.hid hxl
  have BL := Lib.hid hyl
  clear ha hb hx hy
  have h64n : ¬ (64 : Int) < (xs.length : Int) + (ys.length : Int) := by omega
  have hn1 : ¬ 64 < n := by omega
  go_enter Tryd.func3, Tryd.ntmps3
  go_wp2_with fail
  refine (LA.out _ (Below.refl _ _)).mono ?_
  rintro e w1 ⟨la, rfl, hoa, hb1⟩
  obtain ⟨lao, lac, rfl⟩ := own_len hoa
  have K := Lib.hid (show Kept w w1 from hb1)
  have OA := Lib.hid hoa
  clear hb1 hoa
  go_wp2_with fail
  refine (LB.out _ K.out).mono ?_
  rintro e w2 ⟨lb, rfl, hob, hb2⟩
  obtain ⟨lbo, lbc, rfl⟩ := own_len hob
  have RA := Lib.hid (np_rd (own_below OA.out hb2) (by have := AL.out; omega))
  have RB := Lib.hid (np_rd hob (by have := BL.out; omega))
  replace K := Lib.hid (kept_tr K.out hb2)
  clear hb2 hob OA
  go_wp2_with fail
  refine (TC.out _ _ _ (RA.out.below (below_al (Below.refl _ _) _)) (RB.out.below (below_al (Below.refl _ _) _)) w2.heap.size (heap_at rfl)).mono ?_
  rintro e w3 ⟨l1, rfl, hr1, hb3⟩
  obtain ⟨l1o, l1c, rfl⟩ := hr1.shape
  replace K := Lib.hid (kept_tr (kept_al K.out _) hb3)
  have R1 := Lib.hid hr1
  clear hb3 hr1 RA RB
  generalize hl1 : ((xs ++ ys).map vnum) = l1 at *
  have EL1 := Lib.hid hl1
  clear hl1
  skip
  go_wp2_with fail
  have X := Lib.hid (show VBlk (w3.alloc (.cells #[.int .i64 4, .int .i64 0, .string ⟨#[]⟩, .slice l1o l1.length l1c] 27)) w3.heap.size (VL.mk 4 0 ⟨#[]⟩ l1) (.slice l1o l1.length l1c) from VBlk.new w3 (VL.mk 4 0 ⟨#[]⟩ l1) (.slice l1o l1.length l1c))
  replace K := Lib.hid (kept_al K.out (.cells #[.int .i64 4, .int .i64 0, .string ⟨#[]⟩, .slice l1o l1.length l1c] 27))
  replace R1 := Lib.hid (R1.out.below (below_al (Below.refl _ _) (.cells #[.int .i64 4, .int .i64 0, .string ⟨#[]⟩, .slice l1o l1.length l1c] 27)))
  have hXS : w3.heap.size < (w3.alloc (.cells #[.int .i64 4, .int .i64 0, .string ⟨#[]⟩, .slice l1o l1.length l1c] 27)).heap.size := by simp
  have XL := Lib.hid hXS
  clear hXS
  generalize w3.alloc (.cells #[.int .i64 4, .int .i64 0, .string ⟨#[]⟩, .slice l1o l1.length l1c] 27) = v3 at *
  generalize w3.heap.size = GX at X XL ⊢
  refine (lval5 _ _).mono ?_
  rintro e w4 ⟨rfl, hb4⟩
  replace K := Lib.hid (kept_tr K.out hb4)
  replace X := Lib.hid (X.out.below hb4)
  replace R1 := Lib.hid (R1.out.below hb4)
  clear hb4
  go_wp2_with fail
  refine (TR.out _ w4.heap.size (NBlk.new w4 1 n ⟨#[]⟩)).mono ?_
  rintro e w5 ⟨l2, rfl, hr2, hb5⟩
  obtain ⟨l2o, l2c, rfl⟩ := hr2.shape
  replace K := Lib.hid (kept_tr (kept_al K.out _) hb5)
  replace X := Lib.hid (X.out.below (below_tr (below_al (Below.refl _ _) _) hb5))
  replace R1 := Lib.hid (R1.out.below (below_tr (below_al (Below.refl _ _) _) hb5))
  have R2 := Lib.hid hr2
  clear hb5 hr2
  go_wp2_with fail
  have Y := Lib.hid (show VBlk (w5.alloc (.cells #[.int .i64 0, .int .i64 0, .string ⟨#[]⟩, .slice l2o 0 l2c] 27)) w5.heap.size (VL.mk 0 0 ⟨#[]⟩ []) (.slice l2o 0 l2c) from VBlk.new w5 (VL.mk 0 0 ⟨#[]⟩ []) (.slice l2o 0 l2c))
  replace X := Lib.hid (X.out.below (below_al (Below.refl _ _) (.cells #[.int .i64 0, .int .i64 0, .string ⟨#[]⟩, .slice l2o 0 l2c] 27)))
  replace R1 := Lib.hid (R1.out.below (below_al (Below.refl _ _) (.cells #[.int .i64 0, .int .i64 0, .string ⟨#[]⟩, .slice l2o 0 l2c] 27)))
  replace R2 := Lib.hid (R2.out.below (below_al (Below.refl _ _) (.cells #[.int .i64 0, .int .i64 0, .string ⟨#[]⟩, .slice l2o 0 l2c] 27)))
  replace K := Lib.hid (kept_al K.out (.cells #[.int .i64 0, .int .i64 0, .string ⟨#[]⟩, .slice l2o 0 l2c] 27))
  generalize w5.alloc (.cells #[.int .i64 0, .int .i64 0, .string ⟨#[]⟩, .slice l2o 0 l2c] 27) = v5 at *
  generalize w5.heap.size = GY at Y ⊢
  refine (lnum _ _).mono ?_
  rintro e w' ⟨rfl, rfl⟩
  go_wp2_with fail
  refine (LA.out _ K.out).mono ?_
  rintro e w6 ⟨ra, rfl, hoa, hb6⟩
  obtain ⟨rao, rac, rfl⟩ := own_len hoa
  have B6 := Lib.hid hb6
  have OA := Lib.hid hoa
  clear hb6 hoa
  go_wp2_with fail
  refine (LB.out _ (kept_tr K.out B6.out)).mono ?_
  rintro e w7 ⟨rb, rfl, hob, hb7⟩
  obtain ⟨rbo, rbc, rfl⟩ := own_len hob
  replace OA := Lib.hid (own_below OA.out hb7)
  have B7 := Lib.hid (below_tr B6.out hb7)
  have SB := Lib.hid (own_src hob)
  have S1 := Lib.hid SB.out.1
  have S2 := Lib.hid SB.out.2
  obtain ⟨i0, hi0, hz0, hz1, hz2⟩ := info_parts info_val
  clear hb7 hob B6
  go_wp2_with (at_builtin; refine wpList_append_any _ rfl _ _ 25 rfl v5.heap.size 27 i0 _ 4 56 Tryd.underlying25 hi0 hz0 hz1 hz2 rfl (by decide) (.slice rao xs.length rac) xs.length (rowCells (xs.map np)) rfl OA.out rbo ys.length rbc (rowCells (ys.map np)) rfl ?a1 S1.out S2.out ?b1 ?c1 ?d1 ?e1 ?_)
  case a1 => rw [rowCells_len, List.length_map]
  case b1 => exact rowCells_one _ (fun p hp => by obtain ⟨x, -, rfl⟩ := List.mem_map.1 hp; exact ⟨_, _, _, rfl⟩)
  case c1 => unfold maxLen; omega
  case d1 => omega
  case e1 => exact B7.out.size
  intro v' w8 hown hgrow
  have B8 := Lib.hid (below_grown' B7.out hgrow (fun k hk => (World.ownsRow.lt OA.out k hk).1))
  have RD := Lib.hid (np_rd (xs := xs ++ ys) (by rw [List.map_append, rowCells_app, List.length_append]; exact hown) (by simp; omega))
  rw [EL1.out] at RD
  obtain ⟨vo, vc, rfl⟩ := RD.out.shape
  replace X := Lib.hid (X.out.below B8.out)
  replace Y := Lib.hid (Y.out.below B8.out)
  replace R1 := Lib.hid (R1.out.below B8.out)
  replace R2 := Lib.hid (R2.out.below B8.out)
  replace K := Lib.hid (kept_tr K.out B8.out)
  clear hown hgrow OA SB S1 S2 B7 B8 i0 hi0 hz0 hz1 hz2
  have SM := Lib.hid ((rsame 1).call (VL.mk 4 0 ⟨#[]⟩ l1) (VL.mk 4 0 ⟨#[]⟩ l1) _ _ w8 R1.out RD.out)
  rw [sameB_refl] at SM
  go_wp2_with fail
  refine (lnum _ _).mono ?_
  rintro e w' ⟨rfl, rfl⟩
  obtain ⟨x0, x1, x2, x3⟩ := X.out.cells
  have xl := X.out.lt
  go_wp2_with fail
  refine SM.out.mono ?_
  rintro e w9 ⟨rfl, hb9⟩
  clear x0 x1 x2 x3 xl
  replace Y := Lib.hid (Y.out.below hb9)
  replace R2 := Lib.hid (R2.out.below hb9)
  replace K := Lib.hid (kept_tr K.out hb9)
  clear hb9
  go_wp2_with fail
  refine (law_awake5 _).mono ?_
  rintro e wz ⟨rfl, hb⟩
  replace K := Lib.hid (kept_tr K.out hb)
  clear hb
  go_wp2_with fail
  go_ret
  exact ⟨rfl, K.out⟩
set_option maxHeartbeats 8000000 in
set_option maxRecDepth 100000 in
theorem lists_ok_big (va vb : Value) (xs ys : List Int) (n : Int) (ha : NumsRd .i32 w va xs) (hb : NumsRd .i32 w vb ys) (hx : ∀ x ∈ xs, -2147483648 ≤ x ∧ x ≤ 2147483647) (hy : ∀ x ∈ ys, -2147483648 ≤ x ∧ x ≤ 2147483647)
    (hn16 : -32768 ≤ n ∧ n ≤ 32767) (hxl : xs.length ≤ 50) (hyl : ys.length ≤ 50) (h64 : xs.length + ys.length ≤ 64) (hn : 64 < n) :
    Calls Tryd.prog 3 #[va, vb, .int .i16 n] w (Made (.bool true) w) := by
  have HA := Lib.hid ha
  have HB := Lib.hid hb
  have LA := Lib.hid (fun W (hw : Below w.heap.size w W) => flist W va xs (ha.below hw) (by omega) hx)
  have LB := Lib.hid (fun W (hw : Below w.heap.size w W) => flist W vb ys (hb.below hw) (by omega) hy)
  have TC := Lib.hid (fun W va vb ra rb g hg => by have h := t_concat W xs ys va vb ra rb g hg (by omega) (by omega); rw [if_pos h64, if_pos h64, if_pos h64] at h; exact h)
  have TR := Lib.hid (fun W g hg => by have h := t_range W n g hg; rw [if_pos (.inr hn), if_pos (.inr hn), if_neg (by omega), if_pos hn] at h; exact h)
  obtain ⟨ao, acap, rfl⟩ := ha.shape
  obtain ⟨bo, bcap, rfl⟩ := hb.shape
  have AL := Lib.hid hxl
  have BL := Lib.hid hyl
  clear ha hb hx hy
  have h64n : ¬ (64 : Int) < (xs.length : Int) + (ys.length : Int) := by omega
  have hn0 : ¬ n < 0 := by omega
  go_enter Tryd.func3, Tryd.ntmps3
  go_wp2_with fail
  refine (LA.out _ (Below.refl _ _)).mono ?_
  rintro e w1 ⟨la, rfl, hoa, hb1⟩
  obtain ⟨lao, lac, rfl⟩ := own_len hoa
  have K := Lib.hid (show Kept w w1 from hb1)
  have OA := Lib.hid hoa
  clear hb1 hoa
  go_wp2_with fail
  refine (LB.out _ K.out).mono ?_
  rintro e w2 ⟨lb, rfl, hob, hb2⟩
  obtain ⟨lbo, lbc, rfl⟩ := own_len hob
  have RA := Lib.hid (np_rd (own_below OA.out hb2) (by have := AL.out; omega))
  have RB := Lib.hid (np_rd hob (by have := BL.out; omega))
  replace K := Lib.hid (kept_tr K.out hb2)
  clear hb2 hob OA
  go_wp2_with fail
  refine (TC.out _ _ _ (RA.out.below (below_al (Below.refl _ _) _)) (RB.out.below (below_al (Below.refl _ _) _)) w2.heap.size (heap_at rfl)).mono ?_
  rintro e w3 ⟨l1, rfl, hr1, hb3⟩
  obtain ⟨l1o, l1c, rfl⟩ := hr1.shape
  replace K := Lib.hid (kept_tr (kept_al K.out _) hb3)
  have R1 := Lib.hid hr1
  clear hb3 hr1 RA RB
  generalize hl1 : ((xs ++ ys).map vnum) = l1 at *
  have EL1 := Lib.hid hl1
  clear hl1
  skip
  go_wp2_with fail
  have X := Lib.hid (show VBlk (w3.alloc (.cells #[.int .i64 4, .int .i64 0, .string ⟨#[]⟩, .slice l1o l1.length l1c] 27)) w3.heap.size (VL.mk 4 0 ⟨#[]⟩ l1) (.slice l1o l1.length l1c) from VBlk.new w3 (VL.mk 4 0 ⟨#[]⟩ l1) (.slice l1o l1.length l1c))
  replace K := Lib.hid (kept_al K.out (.cells #[.int .i64 4, .int .i64 0, .string ⟨#[]⟩, .slice l1o l1.length l1c] 27))
  replace R1 := Lib.hid (R1.out.below (below_al (Below.refl _ _) (.cells #[.int .i64 4, .int .i64 0, .string ⟨#[]⟩, .slice l1o l1.length l1c] 27)))
  have hXS : w3.heap.size < (w3.alloc (.cells #[.int .i64 4, .int .i64 0, .string ⟨#[]⟩, .slice l1o l1.length l1c] 27)).heap.size := by simp
  have XL := Lib.hid hXS
  clear hXS
  generalize w3.alloc (.cells #[.int .i64 4, .int .i64 0, .string ⟨#[]⟩, .slice l1o l1.length l1c] 27) = v3 at *
  generalize w3.heap.size = GX at X XL ⊢
  refine (lval5 _ _).mono ?_
  rintro e w4 ⟨rfl, hb4⟩
  replace K := Lib.hid (kept_tr K.out hb4)
  replace X := Lib.hid (X.out.below hb4)
  replace R1 := Lib.hid (R1.out.below hb4)
  clear hb4
  go_wp2_with fail
  refine (TR.out _ w4.heap.size (NBlk.new w4 1 n ⟨#[]⟩)).mono ?_
  rintro e w5 ⟨l2, rfl, hr2, hb5⟩
  obtain ⟨l2o, l2c, rfl⟩ := hr2.shape
  replace K := Lib.hid (kept_tr (kept_al K.out _) hb5)
  replace X := Lib.hid (X.out.below (below_tr (below_al (Below.refl _ _) _) hb5))
  replace R1 := Lib.hid (R1.out.below (below_tr (below_al (Below.refl _ _) _) hb5))
  have R2 := Lib.hid hr2
  clear hb5 hr2
  go_wp2_with fail
  have Y := Lib.hid (show VBlk (w5.alloc (.cells #[.int .i64 0, .int .i64 0, .string ⟨#[]⟩, .slice l2o 0 l2c] 27)) w5.heap.size (VL.mk 0 0 ⟨#[]⟩ []) (.slice l2o 0 l2c) from VBlk.new w5 (VL.mk 0 0 ⟨#[]⟩ []) (.slice l2o 0 l2c))
  replace X := Lib.hid (X.out.below (below_al (Below.refl _ _) (.cells #[.int .i64 0, .int .i64 0, .string ⟨#[]⟩, .slice l2o 0 l2c] 27)))
  replace R1 := Lib.hid (R1.out.below (below_al (Below.refl _ _) (.cells #[.int .i64 0, .int .i64 0, .string ⟨#[]⟩, .slice l2o 0 l2c] 27)))
  replace R2 := Lib.hid (R2.out.below (below_al (Below.refl _ _) (.cells #[.int .i64 0, .int .i64 0, .string ⟨#[]⟩, .slice l2o 0 l2c] 27)))
  replace K := Lib.hid (kept_al K.out (.cells #[.int .i64 0, .int .i64 0, .string ⟨#[]⟩, .slice l2o 0 l2c] 27))
  generalize w5.alloc (.cells #[.int .i64 0, .int .i64 0, .string ⟨#[]⟩, .slice l2o 0 l2c] 27) = v5 at *
  generalize w5.heap.size = GY at Y ⊢
  refine (lnum _ _).mono ?_
  rintro e w' ⟨rfl, rfl⟩
  go_wp2_with fail
  refine (LA.out _ K.out).mono ?_
  rintro e w6 ⟨ra, rfl, hoa, hb6⟩
  obtain ⟨rao, rac, rfl⟩ := own_len hoa
  have B6 := Lib.hid hb6
  have OA := Lib.hid hoa
  clear hb6 hoa
  go_wp2_with fail
  refine (LB.out _ (kept_tr K.out B6.out)).mono ?_
  rintro e w7 ⟨rb, rfl, hob, hb7⟩
  obtain ⟨rbo, rbc, rfl⟩ := own_len hob
  replace OA := Lib.hid (own_below OA.out hb7)
  have B7 := Lib.hid (below_tr B6.out hb7)
  have SB := Lib.hid (own_src hob)
  have S1 := Lib.hid SB.out.1
  have S2 := Lib.hid SB.out.2
  obtain ⟨i0, hi0, hz0, hz1, hz2⟩ := info_parts info_val
  clear hb7 hob B6
  go_wp2_with (at_builtin; refine wpList_append_any _ rfl _ _ 25 rfl v5.heap.size 27 i0 _ 4 56 Tryd.underlying25 hi0 hz0 hz1 hz2 rfl (by decide) (.slice rao xs.length rac) xs.length (rowCells (xs.map np)) rfl OA.out rbo ys.length rbc (rowCells (ys.map np)) rfl ?a1 S1.out S2.out ?b1 ?c1 ?d1 ?e1 ?_)
  case a1 => rw [rowCells_len, List.length_map]
  case b1 => exact rowCells_one _ (fun p hp => by obtain ⟨x, -, rfl⟩ := List.mem_map.1 hp; exact ⟨_, _, _, rfl⟩)
  case c1 => unfold maxLen; omega
  case d1 => omega
  case e1 => exact B7.out.size
  intro v' w8 hown hgrow
  have B8 := Lib.hid (below_grown' B7.out hgrow (fun k hk => (World.ownsRow.lt OA.out k hk).1))
  have RD := Lib.hid (np_rd (xs := xs ++ ys) (by rw [List.map_append, rowCells_app, List.length_append]; exact hown) (by simp; omega))
  rw [EL1.out] at RD
  obtain ⟨vo, vc, rfl⟩ := RD.out.shape
  replace X := Lib.hid (X.out.below B8.out)
  replace Y := Lib.hid (Y.out.below B8.out)
  replace R1 := Lib.hid (R1.out.below B8.out)
  replace R2 := Lib.hid (R2.out.below B8.out)
  replace K := Lib.hid (kept_tr K.out B8.out)
  clear hown hgrow OA SB S1 S2 B7 B8 i0 hi0 hz0 hz1 hz2
  have SM := Lib.hid ((rsame 1).call (VL.mk 4 0 ⟨#[]⟩ l1) (VL.mk 4 0 ⟨#[]⟩ l1) _ _ w8 R1.out RD.out)
  rw [sameB_refl] at SM
  go_wp2_with fail
  refine (lnum _ _).mono ?_
  rintro e w' ⟨rfl, rfl⟩
  obtain ⟨x0, x1, x2, x3⟩ := X.out.cells
  have xl := X.out.lt
  go_wp2_with fail
  refine SM.out.mono ?_
  rintro e w9 ⟨rfl, hb9⟩
  clear x0 x1 x2 x3 xl
  replace Y := Lib.hid (Y.out.below hb9)
  replace R2 := Lib.hid (R2.out.below hb9)
  replace K := Lib.hid (kept_tr K.out hb9)
  clear hb9
  go_wp2_with fail
  refine (law_awake5 _).mono ?_
  rintro e wz ⟨rfl, hb⟩
  replace K := Lib.hid (kept_tr K.out hb)
  clear hb
  go_wp2_with fail
  go_ret
  exact ⟨rfl, K.out⟩
set_option maxHeartbeats 8000000 in
set_option maxRecDepth 100000 in
theorem lists_ok_mid (va vb : Value) (xs ys : List Int) (n : Int) (ha : NumsRd .i32 w va xs) (hb : NumsRd .i32 w vb ys) (hx : ∀ x ∈ xs, -2147483648 ≤ x ∧ x ≤ 2147483647) (hy : ∀ x ∈ ys, -2147483648 ≤ x ∧ x ≤ 2147483647)
    (hn16 : -32768 ≤ n ∧ n ≤ 32767) (hxl : xs.length ≤ 50) (hyl : ys.length ≤ 50) (h64 : xs.length + ys.length ≤ 64) (hn : ¬ n < 0 ∧ ¬ 64 < n) :
    Calls Tryd.prog 3 #[va, vb, .int .i16 n] w (Made (.bool true) w) := by
  have HA := Lib.hid ha
  have HB := Lib.hid hb
  have LA := Lib.hid (fun W (hw : Below w.heap.size w W) => flist W va xs (ha.below hw) (by omega) hx)
  have LB := Lib.hid (fun W (hw : Below w.heap.size w W) => flist W vb ys (hb.below hw) (by omega) hy)
  have TC := Lib.hid (fun W va vb ra rb g hg => by have h := t_concat W xs ys va vb ra rb g hg (by omega) (by omega); rw [if_pos h64, if_pos h64, if_pos h64] at h; exact h)
  have TR := Lib.hid (fun W g hg => by have h := t_range W n g hg; rw [if_neg (by omega), if_neg (by omega), if_neg hn.1, if_neg hn.2] at h; exact h)
  obtain ⟨ao, acap, rfl⟩ := ha.shape
  obtain ⟨bo, bcap, rfl⟩ := hb.shape
  have AL := Lib.hid hxl
  have BL := Lib.hid hyl
  clear ha hb hx hy
  have h64n : ¬ (64 : Int) < (xs.length : Int) + (ys.length : Int) := by omega
  obtain ⟨hn0, hn1⟩ := hn
  go_enter Tryd.func3, Tryd.ntmps3
  go_wp2_with fail
  refine (LA.out _ (Below.refl _ _)).mono ?_
  rintro e w1 ⟨la, rfl, hoa, hb1⟩
  obtain ⟨lao, lac, rfl⟩ := own_len hoa
  have K := Lib.hid (show Kept w w1 from hb1)
  have OA := Lib.hid hoa
  clear hb1 hoa
  go_wp2_with fail
  refine (LB.out _ K.out).mono ?_
  rintro e w2 ⟨lb, rfl, hob, hb2⟩
  obtain ⟨lbo, lbc, rfl⟩ := own_len hob
  have RA := Lib.hid (np_rd (own_below OA.out hb2) (by have := AL.out; omega))
  have RB := Lib.hid (np_rd hob (by have := BL.out; omega))
  replace K := Lib.hid (kept_tr K.out hb2)
  clear hb2 hob OA
  go_wp2_with fail
  refine (TC.out _ _ _ (RA.out.below (below_al (Below.refl _ _) _)) (RB.out.below (below_al (Below.refl _ _) _)) w2.heap.size (heap_at rfl)).mono ?_
  rintro e w3 ⟨l1, rfl, hr1, hb3⟩
  obtain ⟨l1o, l1c, rfl⟩ := hr1.shape
  replace K := Lib.hid (kept_tr (kept_al K.out _) hb3)
  have R1 := Lib.hid hr1
  clear hb3 hr1 RA RB
  generalize hl1 : ((xs ++ ys).map vnum) = l1 at *
  have EL1 := Lib.hid hl1
  clear hl1
  skip
  go_wp2_with fail
  have X := Lib.hid (show VBlk (w3.alloc (.cells #[.int .i64 4, .int .i64 0, .string ⟨#[]⟩, .slice l1o l1.length l1c] 27)) w3.heap.size (VL.mk 4 0 ⟨#[]⟩ l1) (.slice l1o l1.length l1c) from VBlk.new w3 (VL.mk 4 0 ⟨#[]⟩ l1) (.slice l1o l1.length l1c))
  replace K := Lib.hid (kept_al K.out (.cells #[.int .i64 4, .int .i64 0, .string ⟨#[]⟩, .slice l1o l1.length l1c] 27))
  replace R1 := Lib.hid (R1.out.below (below_al (Below.refl _ _) (.cells #[.int .i64 4, .int .i64 0, .string ⟨#[]⟩, .slice l1o l1.length l1c] 27)))
  have hXS : w3.heap.size < (w3.alloc (.cells #[.int .i64 4, .int .i64 0, .string ⟨#[]⟩, .slice l1o l1.length l1c] 27)).heap.size := by simp
  have XL := Lib.hid hXS
  clear hXS
  generalize w3.alloc (.cells #[.int .i64 4, .int .i64 0, .string ⟨#[]⟩, .slice l1o l1.length l1c] 27) = v3 at *
  generalize w3.heap.size = GX at X XL ⊢
  refine (lval5 _ _).mono ?_
  rintro e w4 ⟨rfl, hb4⟩
  replace K := Lib.hid (kept_tr K.out hb4)
  replace X := Lib.hid (X.out.below hb4)
  replace R1 := Lib.hid (R1.out.below hb4)
  clear hb4
  go_wp2_with fail
  refine (TR.out _ w4.heap.size (NBlk.new w4 1 n ⟨#[]⟩)).mono ?_
  rintro e w5 ⟨l2, rfl, hr2, hb5⟩
  obtain ⟨l2o, l2c, rfl⟩ := hr2.shape
  replace K := Lib.hid (kept_tr (kept_al K.out _) hb5)
  replace X := Lib.hid (X.out.below (below_tr (below_al (Below.refl _ _) _) hb5))
  replace R1 := Lib.hid (R1.out.below (below_tr (below_al (Below.refl _ _) _) hb5))
  have R2 := Lib.hid hr2
  clear hb5 hr2
  generalize hl2 : ((upTo n.toNat).map vnum) = l2 at *
  have EL2 := Lib.hid hl2
  clear hl2
  go_wp2_with fail
  have Y := Lib.hid (show VBlk (w5.alloc (.cells #[.int .i64 4, .int .i64 0, .string ⟨#[]⟩, .slice l2o l2.length l2c] 27)) w5.heap.size (VL.mk 4 0 ⟨#[]⟩ l2) (.slice l2o l2.length l2c) from VBlk.new w5 (VL.mk 4 0 ⟨#[]⟩ l2) (.slice l2o l2.length l2c))
  replace X := Lib.hid (X.out.below (below_al (Below.refl _ _) (.cells #[.int .i64 4, .int .i64 0, .string ⟨#[]⟩, .slice l2o l2.length l2c] 27)))
  replace R1 := Lib.hid (R1.out.below (below_al (Below.refl _ _) (.cells #[.int .i64 4, .int .i64 0, .string ⟨#[]⟩, .slice l2o l2.length l2c] 27)))
  replace R2 := Lib.hid (R2.out.below (below_al (Below.refl _ _) (.cells #[.int .i64 4, .int .i64 0, .string ⟨#[]⟩, .slice l2o l2.length l2c] 27)))
  replace K := Lib.hid (kept_al K.out (.cells #[.int .i64 4, .int .i64 0, .string ⟨#[]⟩, .slice l2o l2.length l2c] 27))
  generalize w5.alloc (.cells #[.int .i64 4, .int .i64 0, .string ⟨#[]⟩, .slice l2o l2.length l2c] 27) = v5 at *
  generalize w5.heap.size = GY at Y ⊢
  refine (LA.out _ K.out).mono ?_
  rintro e w6 ⟨ra, rfl, hoa, hb6⟩
  obtain ⟨rao, rac, rfl⟩ := own_len hoa
  have B6 := Lib.hid hb6
  have OA := Lib.hid hoa
  clear hb6 hoa
  go_wp2_with fail
  refine (LB.out _ (kept_tr K.out B6.out)).mono ?_
  rintro e w7 ⟨rb, rfl, hob, hb7⟩
  obtain ⟨rbo, rbc, rfl⟩ := own_len hob
  replace OA := Lib.hid (own_below OA.out hb7)
  have B7 := Lib.hid (below_tr B6.out hb7)
  have SB := Lib.hid (own_src hob)
  have S1 := Lib.hid SB.out.1
  have S2 := Lib.hid SB.out.2
  obtain ⟨i0, hi0, hz0, hz1, hz2⟩ := info_parts info_val
  clear hb7 hob B6
  go_wp2_with (at_builtin; refine wpList_append_any _ rfl _ _ 25 rfl v5.heap.size 27 i0 _ 4 56 Tryd.underlying25 hi0 hz0 hz1 hz2 rfl (by decide) (.slice rao xs.length rac) xs.length (rowCells (xs.map np)) rfl OA.out rbo ys.length rbc (rowCells (ys.map np)) rfl ?a1 S1.out S2.out ?b1 ?c1 ?d1 ?e1 ?_)
  case a1 => rw [rowCells_len, List.length_map]
  case b1 => exact rowCells_one _ (fun p hp => by obtain ⟨x, -, rfl⟩ := List.mem_map.1 hp; exact ⟨_, _, _, rfl⟩)
  case c1 => unfold maxLen; omega
  case d1 => omega
  case e1 => exact B7.out.size
  intro v' w8 hown hgrow
  have B8 := Lib.hid (below_grown' B7.out hgrow (fun k hk => (World.ownsRow.lt OA.out k hk).1))
  have RD := Lib.hid (np_rd (xs := xs ++ ys) (by rw [List.map_append, rowCells_app, List.length_append]; exact hown) (by simp; omega))
  rw [EL1.out] at RD
  obtain ⟨vo, vc, rfl⟩ := RD.out.shape
  replace X := Lib.hid (X.out.below B8.out)
  replace Y := Lib.hid (Y.out.below B8.out)
  replace R1 := Lib.hid (R1.out.below B8.out)
  replace R2 := Lib.hid (R2.out.below B8.out)
  replace K := Lib.hid (kept_tr K.out B8.out)
  clear hown hgrow OA SB S1 S2 B7 B8 i0 hi0 hz0 hz1 hz2
  have SM := Lib.hid ((rsame 1).call (VL.mk 4 0 ⟨#[]⟩ l1) (VL.mk 4 0 ⟨#[]⟩ l1) _ _ w8 R1.out RD.out)
  rw [sameB_refl] at SM
  go_wp2_with fail
  refine (lnum _ _).mono ?_
  rintro e w' ⟨rfl, rfl⟩
  obtain ⟨x0, x1, x2, x3⟩ := X.out.cells
  have xl := X.out.lt
  go_wp2_with fail
  refine SM.out.mono ?_
  rintro e w9 ⟨rfl, hb9⟩
  clear x0 x1 x2 x3 xl
  replace Y := Lib.hid (Y.out.below hb9)
  replace R2 := Lib.hid (R2.out.below hb9)
  replace K := Lib.hid (kept_tr K.out hb9)
  clear hb9
  go_wp2_with fail
  refine (lnum _ _).mono ?_
  rintro e w' ⟨rfl, rfl⟩
  have hlen : (l2.length : Int) = n := by rw [← EL2.out, List.length_map, upTo_len]; omega
  have hne : ((l2.length : Int) != n) = false := by simp [hlen]
  have hll : l2.length ≤ 64 := by omega
  have LL := Lib.hid hlen
  clear hlen
  obtain ⟨y0, y1, y2, y3⟩ := Y.out.cells
  have yl := Y.out.lt
  go_wp2_with fail
  go_loopg [12] l2.length (fun m iv wr => ∃ i : Nat, iv = .int .i64 i ∧ l2.length - i ≤ m ∧ i ≤ l2.length ∧ wr = w9)
  case atStart => exact ⟨0, rfl, Nat.le_refl _, Nat.zero_le _, rfl⟩
  case round =>
    obtain ⟨i, rfl, hm, hi, rfl⟩ := hrel
    have HM := Lib.hid hm
    clear hm
    by_cases hil : i < l2.length
    · obtain ⟨u, hu⟩ : ∃ u, l2[i]? = some u := ⟨_, List.getElem?_eq_getElem hil⟩
      have UN := Lib.hid (show u = vnum (i : Int) by
        rw [← EL2.out, List.getElem?_map, upTo, List.getElem?_map, List.getElem?_range (by rw [← EL2.out, List.length_map, upTo_len] at hil; exact hil)] at hu
        exact (Option.some.inj hu).symm)
      obtain ⟨ao2, cap2, e2, hat⟩ := R2.out.at
      simp only [Value.slice.injEq, true_and] at e2
      obtain ⟨rfl, rfl⟩ := e2
      obtain ⟨g2, o2, lu, rfl, -, k0, k1, k2, k3, hr⟩ := hat i u hu
      rw [UN.out] at k1
      clear hat hu hr k0 k2 k3
      replace k1 := (show World.cell? _ _ = some (Value.int .i64 (i : Int)) from k1)
      have i9 : i ≤ 9000 := by omega
      go_wp2_with fail
      go_roundg (l2.length - (i + 1))
      case rel => exact ⟨i + 1, rfl, Nat.le_refl _, hil, rfl⟩
      case measure => have := HM.out; omega
    · go_wp2_with fail
      refine (law_awake5 _).mono ?_
      rintro e wz ⟨rfl, hb⟩
      have KZ := Lib.hid (kept_tr K.out hb)
      clear hb
      go_wp2_with fail
      go_ret
      exact ⟨rfl, KZ.out⟩
set_option maxHeartbeats 8000000 in
set_option maxRecDepth 100000 in
theorem lists_long_neg (va vb : Value) (xs ys : List Int) (n : Int) (ha : NumsRd .i32 w va xs) (hb : NumsRd .i32 w vb ys) (hx : ∀ x ∈ xs, -2147483648 ≤ x ∧ x ≤ 2147483647) (hy : ∀ x ∈ ys, -2147483648 ≤ x ∧ x ≤ 2147483647)
    (hn16 : -32768 ≤ n ∧ n ≤ 32767) (hxl : xs.length ≤ 50) (hyl : ys.length ≤ 50) (h64 : 64 < xs.length + ys.length) (hn : n < 0) :
    Calls Tryd.prog 3 #[va, vb, .int .i16 n] w (Made (.bool true) w) := by
  have HA := Lib.hid ha
  have HB := Lib.hid hb
  have LA := Lib.hid (fun W (hw : Below w.heap.size w W) => flist W va xs (ha.below hw) (by omega) hx)
  have LB := Lib.hid (fun W (hw : Below w.heap.size w W) => flist W vb ys (hb.below hw) (by omega) hy)
  have TC := Lib.hid (fun W va vb ra rb g hg => by have h := t_concat W xs ys va vb ra rb g hg (by omega) (by omega); rw [if_neg (by omega), if_neg (by omega), if_neg (by omega)] at h; exact h)
  have TR := Lib.hid (fun W g hg => by have h := t_range W n g hg; rw [if_pos (.inl hn), if_pos (.inl hn), if_pos hn] at h; exact h)
  obtain ⟨ao, acap, rfl⟩ := ha.shape
  obtain ⟨bo, bcap, rfl⟩ := hb.shape
  have AL := Lib.hid hxl
  have BL := Lib.hid hyl
  clear ha hb hx hy
  have hn1 : ¬ 64 < n := by omega
  go_enter Tryd.func3, Tryd.ntmps3
  go_wp2_with fail
  refine (LA.out _ (Below.refl _ _)).mono ?_
  rintro e w1 ⟨la, rfl, hoa, hb1⟩
  obtain ⟨lao, lac, rfl⟩ := own_len hoa
  have K := Lib.hid (show Kept w w1 from hb1)
  have OA := Lib.hid hoa
  clear hb1 hoa
  go_wp2_with fail
  refine (LB.out _ K.out).mono ?_
  rintro e w2 ⟨lb, rfl, hob, hb2⟩
  obtain ⟨lbo, lbc, rfl⟩ := own_len hob
  have RA := Lib.hid (np_rd (own_below OA.out hb2) (by have := AL.out; omega))
  have RB := Lib.hid (np_rd hob (by have := BL.out; omega))
  replace K := Lib.hid (kept_tr K.out hb2)
  clear hb2 hob OA
  go_wp2_with fail
  refine (TC.out _ _ _ (RA.out.below (below_al (Below.refl _ _) _)) (RB.out.below (below_al (Below.refl _ _) _)) w2.heap.size (heap_at rfl)).mono ?_
  rintro e w3 ⟨l1, rfl, hr1, hb3⟩
  obtain ⟨l1o, l1c, rfl⟩ := hr1.shape
  replace K := Lib.hid (kept_tr (kept_al K.out _) hb3)
  have R1 := Lib.hid hr1
  clear hb3 hr1 RA RB
  skip
  go_wp2_with fail
  have X := Lib.hid (show VBlk (w3.alloc (.cells #[.int .i64 0, .int .i64 0, .string ⟨#[]⟩, .slice l1o 0 l1c] 27)) w3.heap.size (VL.mk 0 0 ⟨#[]⟩ []) (.slice l1o 0 l1c) from VBlk.new w3 (VL.mk 0 0 ⟨#[]⟩ []) (.slice l1o 0 l1c))
  replace K := Lib.hid (kept_al K.out (.cells #[.int .i64 0, .int .i64 0, .string ⟨#[]⟩, .slice l1o 0 l1c] 27))
  replace R1 := Lib.hid (R1.out.below (below_al (Below.refl _ _) (.cells #[.int .i64 0, .int .i64 0, .string ⟨#[]⟩, .slice l1o 0 l1c] 27)))
  have hXS : w3.heap.size < (w3.alloc (.cells #[.int .i64 0, .int .i64 0, .string ⟨#[]⟩, .slice l1o 0 l1c] 27)).heap.size := by simp
  have XL := Lib.hid hXS
  clear hXS
  generalize w3.alloc (.cells #[.int .i64 0, .int .i64 0, .string ⟨#[]⟩, .slice l1o 0 l1c] 27) = v3 at *
  generalize w3.heap.size = GX at X XL ⊢
  refine (lval5 _ _).mono ?_
  rintro e w4 ⟨rfl, hb4⟩
  replace K := Lib.hid (kept_tr K.out hb4)
  replace X := Lib.hid (X.out.below hb4)
  replace R1 := Lib.hid (R1.out.below hb4)
  clear hb4
  go_wp2_with fail
  refine (TR.out _ w4.heap.size (NBlk.new w4 1 n ⟨#[]⟩)).mono ?_
  rintro e w5 ⟨l2, rfl, hr2, hb5⟩
  obtain ⟨l2o, l2c, rfl⟩ := hr2.shape
  replace K := Lib.hid (kept_tr (kept_al K.out _) hb5)
  replace X := Lib.hid (X.out.below (below_tr (below_al (Below.refl _ _) _) hb5))
  replace R1 := Lib.hid (R1.out.below (below_tr (below_al (Below.refl _ _) _) hb5))
  have R2 := Lib.hid hr2
  clear hb5 hr2
  go_wp2_with fail
  have Y := Lib.hid (show VBlk (w5.alloc (.cells #[.int .i64 0, .int .i64 0, .string ⟨#[]⟩, .slice l2o 0 l2c] 27)) w5.heap.size (VL.mk 0 0 ⟨#[]⟩ []) (.slice l2o 0 l2c) from VBlk.new w5 (VL.mk 0 0 ⟨#[]⟩ []) (.slice l2o 0 l2c))
  replace X := Lib.hid (X.out.below (below_al (Below.refl _ _) (.cells #[.int .i64 0, .int .i64 0, .string ⟨#[]⟩, .slice l2o 0 l2c] 27)))
  replace R1 := Lib.hid (R1.out.below (below_al (Below.refl _ _) (.cells #[.int .i64 0, .int .i64 0, .string ⟨#[]⟩, .slice l2o 0 l2c] 27)))
  replace R2 := Lib.hid (R2.out.below (below_al (Below.refl _ _) (.cells #[.int .i64 0, .int .i64 0, .string ⟨#[]⟩, .slice l2o 0 l2c] 27)))
  replace K := Lib.hid (kept_al K.out (.cells #[.int .i64 0, .int .i64 0, .string ⟨#[]⟩, .slice l2o 0 l2c] 27))
  generalize w5.alloc (.cells #[.int .i64 0, .int .i64 0, .string ⟨#[]⟩, .slice l2o 0 l2c] 27) = v5 at *
  generalize w5.heap.size = GY at Y ⊢
  refine (lnum _ _).mono ?_
  rintro e w' ⟨rfl, rfl⟩
  go_wp2_with fail
  refine (lnum _ _).mono ?_
  rintro e w' ⟨rfl, rfl⟩
  go_wp2_with fail
  refine (law_awake5 _).mono ?_
  rintro e wz ⟨rfl, hb⟩
  replace K := Lib.hid (kept_tr K.out hb)
  clear hb
  go_wp2_with fail
  go_ret
  exact ⟨rfl, K.out⟩
set_option maxHeartbeats 8000000 in
set_option maxRecDepth 100000 in
theorem lists_long_big (va vb : Value) (xs ys : List Int) (n : Int) (ha : NumsRd .i32 w va xs) (hb : NumsRd .i32 w vb ys) (hx : ∀ x ∈ xs, -2147483648 ≤ x ∧ x ≤ 2147483647) (hy : ∀ x ∈ ys, -2147483648 ≤ x ∧ x ≤ 2147483647)
    (hn16 : -32768 ≤ n ∧ n ≤ 32767) (hxl : xs.length ≤ 50) (hyl : ys.length ≤ 50) (h64 : 64 < xs.length + ys.length) (hn : 64 < n) :
    Calls Tryd.prog 3 #[va, vb, .int .i16 n] w (Made (.bool true) w) := by
  have HA := Lib.hid ha
  have HB := Lib.hid hb
  have LA := Lib.hid (fun W (hw : Below w.heap.size w W) => flist W va xs (ha.below hw) (by omega) hx)
  have LB := Lib.hid (fun W (hw : Below w.heap.size w W) => flist W vb ys (hb.below hw) (by omega) hy)
  have TC := Lib.hid (fun W va vb ra rb g hg => by have h := t_concat W xs ys va vb ra rb g hg (by omega) (by omega); rw [if_neg (by omega), if_neg (by omega), if_neg (by omega)] at h; exact h)
  have TR := Lib.hid (fun W g hg => by have h := t_range W n g hg; rw [if_pos (.inr hn), if_pos (.inr hn), if_neg (by omega), if_pos hn] at h; exact h)
  obtain ⟨ao, acap, rfl⟩ := ha.shape
  obtain ⟨bo, bcap, rfl⟩ := hb.shape
  have AL := Lib.hid hxl
  have BL := Lib.hid hyl
  clear ha hb hx hy
  have hn0 : ¬ n < 0 := by omega
  go_enter Tryd.func3, Tryd.ntmps3
  go_wp2_with fail
  refine (LA.out _ (Below.refl _ _)).mono ?_
  rintro e w1 ⟨la, rfl, hoa, hb1⟩
  obtain ⟨lao, lac, rfl⟩ := own_len hoa
  have K := Lib.hid (show Kept w w1 from hb1)
  have OA := Lib.hid hoa
  clear hb1 hoa
  go_wp2_with fail
  refine (LB.out _ K.out).mono ?_
  rintro e w2 ⟨lb, rfl, hob, hb2⟩
  obtain ⟨lbo, lbc, rfl⟩ := own_len hob
  have RA := Lib.hid (np_rd (own_below OA.out hb2) (by have := AL.out; omega))
  have RB := Lib.hid (np_rd hob (by have := BL.out; omega))
  replace K := Lib.hid (kept_tr K.out hb2)
  clear hb2 hob OA
  go_wp2_with fail
  refine (TC.out _ _ _ (RA.out.below (below_al (Below.refl _ _) _)) (RB.out.below (below_al (Below.refl _ _) _)) w2.heap.size (heap_at rfl)).mono ?_
  rintro e w3 ⟨l1, rfl, hr1, hb3⟩
  obtain ⟨l1o, l1c, rfl⟩ := hr1.shape
  replace K := Lib.hid (kept_tr (kept_al K.out _) hb3)
  have R1 := Lib.hid hr1
  clear hb3 hr1 RA RB
  skip
  go_wp2_with fail
  have X := Lib.hid (show VBlk (w3.alloc (.cells #[.int .i64 0, .int .i64 0, .string ⟨#[]⟩, .slice l1o 0 l1c] 27)) w3.heap.size (VL.mk 0 0 ⟨#[]⟩ []) (.slice l1o 0 l1c) from VBlk.new w3 (VL.mk 0 0 ⟨#[]⟩ []) (.slice l1o 0 l1c))
  replace K := Lib.hid (kept_al K.out (.cells #[.int .i64 0, .int .i64 0, .string ⟨#[]⟩, .slice l1o 0 l1c] 27))
  replace R1 := Lib.hid (R1.out.below (below_al (Below.refl _ _) (.cells #[.int .i64 0, .int .i64 0, .string ⟨#[]⟩, .slice l1o 0 l1c] 27)))
  have hXS : w3.heap.size < (w3.alloc (.cells #[.int .i64 0, .int .i64 0, .string ⟨#[]⟩, .slice l1o 0 l1c] 27)).heap.size := by simp
  have XL := Lib.hid hXS
  clear hXS
  generalize w3.alloc (.cells #[.int .i64 0, .int .i64 0, .string ⟨#[]⟩, .slice l1o 0 l1c] 27) = v3 at *
  generalize w3.heap.size = GX at X XL ⊢
  refine (lval5 _ _).mono ?_
  rintro e w4 ⟨rfl, hb4⟩
  replace K := Lib.hid (kept_tr K.out hb4)
  replace X := Lib.hid (X.out.below hb4)
  replace R1 := Lib.hid (R1.out.below hb4)
  clear hb4
  go_wp2_with fail
  refine (TR.out _ w4.heap.size (NBlk.new w4 1 n ⟨#[]⟩)).mono ?_
  rintro e w5 ⟨l2, rfl, hr2, hb5⟩
  obtain ⟨l2o, l2c, rfl⟩ := hr2.shape
  replace K := Lib.hid (kept_tr (kept_al K.out _) hb5)
  replace X := Lib.hid (X.out.below (below_tr (below_al (Below.refl _ _) _) hb5))
  replace R1 := Lib.hid (R1.out.below (below_tr (below_al (Below.refl _ _) _) hb5))
  have R2 := Lib.hid hr2
  clear hb5 hr2
  go_wp2_with fail
  have Y := Lib.hid (show VBlk (w5.alloc (.cells #[.int .i64 0, .int .i64 0, .string ⟨#[]⟩, .slice l2o 0 l2c] 27)) w5.heap.size (VL.mk 0 0 ⟨#[]⟩ []) (.slice l2o 0 l2c) from VBlk.new w5 (VL.mk 0 0 ⟨#[]⟩ []) (.slice l2o 0 l2c))
  replace X := Lib.hid (X.out.below (below_al (Below.refl _ _) (.cells #[.int .i64 0, .int .i64 0, .string ⟨#[]⟩, .slice l2o 0 l2c] 27)))
  replace R1 := Lib.hid (R1.out.below (below_al (Below.refl _ _) (.cells #[.int .i64 0, .int .i64 0, .string ⟨#[]⟩, .slice l2o 0 l2c] 27)))
  replace R2 := Lib.hid (R2.out.below (below_al (Below.refl _ _) (.cells #[.int .i64 0, .int .i64 0, .string ⟨#[]⟩, .slice l2o 0 l2c] 27)))
  replace K := Lib.hid (kept_al K.out (.cells #[.int .i64 0, .int .i64 0, .string ⟨#[]⟩, .slice l2o 0 l2c] 27))
  generalize w5.alloc (.cells #[.int .i64 0, .int .i64 0, .string ⟨#[]⟩, .slice l2o 0 l2c] 27) = v5 at *
  generalize w5.heap.size = GY at Y ⊢
  refine (lnum _ _).mono ?_
  rintro e w' ⟨rfl, rfl⟩
  go_wp2_with fail
  refine (lnum _ _).mono ?_
  rintro e w' ⟨rfl, rfl⟩
  go_wp2_with fail
  refine (law_awake5 _).mono ?_
  rintro e wz ⟨rfl, hb⟩
  replace K := Lib.hid (kept_tr K.out hb)
  clear hb
  go_wp2_with fail
  go_ret
  exact ⟨rfl, K.out⟩
set_option maxHeartbeats 8000000 in
set_option maxRecDepth 100000 in
theorem lists_long_mid (va vb : Value) (xs ys : List Int) (n : Int) (ha : NumsRd .i32 w va xs) (hb : NumsRd .i32 w vb ys) (hx : ∀ x ∈ xs, -2147483648 ≤ x ∧ x ≤ 2147483647) (hy : ∀ x ∈ ys, -2147483648 ≤ x ∧ x ≤ 2147483647)
    (hn16 : -32768 ≤ n ∧ n ≤ 32767) (hxl : xs.length ≤ 50) (hyl : ys.length ≤ 50) (h64 : 64 < xs.length + ys.length) (hn : ¬ n < 0 ∧ ¬ 64 < n) :
    Calls Tryd.prog 3 #[va, vb, .int .i16 n] w (Made (.bool true) w) := by
  have HA := Lib.hid ha
  have HB := Lib.hid hb
  have LA := Lib.hid (fun W (hw : Below w.heap.size w W) => flist W va xs (ha.below hw) (by omega) hx)
  have LB := Lib.hid (fun W (hw : Below w.heap.size w W) => flist W vb ys (hb.below hw) (by omega) hy)
  have TC := Lib.hid (fun W va vb ra rb g hg => by have h := t_concat W xs ys va vb ra rb g hg (by omega) (by omega); rw [if_neg (by omega), if_neg (by omega), if_neg (by omega)] at h; exact h)
  have TR := Lib.hid (fun W g hg => by have h := t_range W n g hg; rw [if_neg (by omega), if_neg (by omega), if_neg hn.1, if_neg hn.2] at h; exact h)
  obtain ⟨ao, acap, rfl⟩ := ha.shape
  obtain ⟨bo, bcap, rfl⟩ := hb.shape
  have AL := Lib.hid hxl
  have BL := Lib.hid hyl
  clear ha hb hx hy
  obtain ⟨hn0, hn1⟩ := hn
  go_enter Tryd.func3, Tryd.ntmps3
  go_wp2_with fail
  refine (LA.out _ (Below.refl _ _)).mono ?_
  rintro e w1 ⟨la, rfl, hoa, hb1⟩
  obtain ⟨lao, lac, rfl⟩ := own_len hoa
  have K := Lib.hid (show Kept w w1 from hb1)
  have OA := Lib.hid hoa
  clear hb1 hoa
  go_wp2_with fail
  refine (LB.out _ K.out).mono ?_
  rintro e w2 ⟨lb, rfl, hob, hb2⟩
  obtain ⟨lbo, lbc, rfl⟩ := own_len hob
  have RA := Lib.hid (np_rd (own_below OA.out hb2) (by have := AL.out; omega))
  have RB := Lib.hid (np_rd hob (by have := BL.out; omega))
  replace K := Lib.hid (kept_tr K.out hb2)
  clear hb2 hob OA
  go_wp2_with fail
  refine (TC.out _ _ _ (RA.out.below (below_al (Below.refl _ _) _)) (RB.out.below (below_al (Below.refl _ _) _)) w2.heap.size (heap_at rfl)).mono ?_
  rintro e w3 ⟨l1, rfl, hr1, hb3⟩
  obtain ⟨l1o, l1c, rfl⟩ := hr1.shape
  replace K := Lib.hid (kept_tr (kept_al K.out _) hb3)
  have R1 := Lib.hid hr1
  clear hb3 hr1 RA RB
  skip
  go_wp2_with fail
  have X := Lib.hid (show VBlk (w3.alloc (.cells #[.int .i64 0, .int .i64 0, .string ⟨#[]⟩, .slice l1o 0 l1c] 27)) w3.heap.size (VL.mk 0 0 ⟨#[]⟩ []) (.slice l1o 0 l1c) from VBlk.new w3 (VL.mk 0 0 ⟨#[]⟩ []) (.slice l1o 0 l1c))
  replace K := Lib.hid (kept_al K.out (.cells #[.int .i64 0, .int .i64 0, .string ⟨#[]⟩, .slice l1o 0 l1c] 27))
  replace R1 := Lib.hid (R1.out.below (below_al (Below.refl _ _) (.cells #[.int .i64 0, .int .i64 0, .string ⟨#[]⟩, .slice l1o 0 l1c] 27)))
  have hXS : w3.heap.size < (w3.alloc (.cells #[.int .i64 0, .int .i64 0, .string ⟨#[]⟩, .slice l1o 0 l1c] 27)).heap.size := by simp
  have XL := Lib.hid hXS
  clear hXS
  generalize w3.alloc (.cells #[.int .i64 0, .int .i64 0, .string ⟨#[]⟩, .slice l1o 0 l1c] 27) = v3 at *
  generalize w3.heap.size = GX at X XL ⊢
  refine (lval5 _ _).mono ?_
  rintro e w4 ⟨rfl, hb4⟩
  replace K := Lib.hid (kept_tr K.out hb4)
  replace X := Lib.hid (X.out.below hb4)
  replace R1 := Lib.hid (R1.out.below hb4)
  clear hb4
  go_wp2_with fail
  refine (TR.out _ w4.heap.size (NBlk.new w4 1 n ⟨#[]⟩)).mono ?_
  rintro e w5 ⟨l2, rfl, hr2, hb5⟩
  obtain ⟨l2o, l2c, rfl⟩ := hr2.shape
  replace K := Lib.hid (kept_tr (kept_al K.out _) hb5)
  replace X := Lib.hid (X.out.below (below_tr (below_al (Below.refl _ _) _) hb5))
  replace R1 := Lib.hid (R1.out.below (below_tr (below_al (Below.refl _ _) _) hb5))
  have R2 := Lib.hid hr2
  clear hb5 hr2
  generalize hl2 : ((upTo n.toNat).map vnum) = l2 at *
  have EL2 := Lib.hid hl2
  clear hl2
  go_wp2_with fail
  have Y := Lib.hid (show VBlk (w5.alloc (.cells #[.int .i64 4, .int .i64 0, .string ⟨#[]⟩, .slice l2o l2.length l2c] 27)) w5.heap.size (VL.mk 4 0 ⟨#[]⟩ l2) (.slice l2o l2.length l2c) from VBlk.new w5 (VL.mk 4 0 ⟨#[]⟩ l2) (.slice l2o l2.length l2c))
  replace X := Lib.hid (X.out.below (below_al (Below.refl _ _) (.cells #[.int .i64 4, .int .i64 0, .string ⟨#[]⟩, .slice l2o l2.length l2c] 27)))
  replace R1 := Lib.hid (R1.out.below (below_al (Below.refl _ _) (.cells #[.int .i64 4, .int .i64 0, .string ⟨#[]⟩, .slice l2o l2.length l2c] 27)))
  replace R2 := Lib.hid (R2.out.below (below_al (Below.refl _ _) (.cells #[.int .i64 4, .int .i64 0, .string ⟨#[]⟩, .slice l2o l2.length l2c] 27)))
  replace K := Lib.hid (kept_al K.out (.cells #[.int .i64 4, .int .i64 0, .string ⟨#[]⟩, .slice l2o l2.length l2c] 27))
  generalize w5.alloc (.cells #[.int .i64 4, .int .i64 0, .string ⟨#[]⟩, .slice l2o l2.length l2c] 27) = v5 at *
  generalize w5.heap.size = GY at Y ⊢
  refine (lnum _ _).mono ?_
  rintro e w' ⟨rfl, rfl⟩
  go_wp2_with fail
  refine (lnum _ _).mono ?_
  rintro e w' ⟨rfl, rfl⟩
  have hlen : (l2.length : Int) = n := by rw [← EL2.out, List.length_map, upTo_len]; omega
  have hne : ((l2.length : Int) != n) = false := by simp [hlen]
  have hll : l2.length ≤ 64 := by omega
  have LL := Lib.hid hlen
  clear hlen
  obtain ⟨y0, y1, y2, y3⟩ := Y.out.cells
  have yl := Y.out.lt
  go_wp2_with fail
  go_loopg [12] l2.length (fun m iv wr => ∃ i : Nat, iv = .int .i64 i ∧ l2.length - i ≤ m ∧ i ≤ l2.length ∧ wr = v5)
  case atStart => exact ⟨0, rfl, Nat.le_refl _, Nat.zero_le _, rfl⟩
  case round =>
    obtain ⟨i, rfl, hm, hi, rfl⟩ := hrel
    have HM := Lib.hid hm
    clear hm
    by_cases hil : i < l2.length
    · obtain ⟨u, hu⟩ : ∃ u, l2[i]? = some u := ⟨_, List.getElem?_eq_getElem hil⟩
      have UN := Lib.hid (show u = vnum (i : Int) by
        rw [← EL2.out, List.getElem?_map, upTo, List.getElem?_map, List.getElem?_range (by rw [← EL2.out, List.length_map, upTo_len] at hil; exact hil)] at hu
        exact (Option.some.inj hu).symm)
      obtain ⟨ao2, cap2, e2, hat⟩ := R2.out.at
      simp only [Value.slice.injEq, true_and] at e2
      obtain ⟨rfl, rfl⟩ := e2
      obtain ⟨g2, o2, lu, rfl, -, k0, k1, k2, k3, hr⟩ := hat i u hu
      rw [UN.out] at k1
      clear hat hu hr k0 k2 k3
      replace k1 := (show World.cell? _ _ = some (Value.int .i64 (i : Int)) from k1)
      have i9 : i ≤ 9000 := by omega
      go_wp2_with fail
      go_roundg (l2.length - (i + 1))
      case rel => exact ⟨i + 1, rfl, Nat.le_refl _, hil, rfl⟩
      case measure => have := HM.out; omega
    · go_wp2_with fail
      refine (law_awake5 _).mono ?_
      rintro e wz ⟨rfl, hb⟩
      have KZ := Lib.hid (kept_tr K.out hb)
      clear hb
      go_wp2_with fail
      go_ret
      exact ⟨rfl, KZ.out⟩
theorem law_lists (va vb : Value) (xs ys : List Int) (n : Int) (ha : NumsRd .i32 w va xs) (hb : NumsRd .i32 w vb ys) (hx : ∀ x ∈ xs, -2147483648 ≤ x ∧ x ≤ 2147483647) (hy : ∀ x ∈ ys, -2147483648 ≤ x ∧ x ≤ 2147483647)
    (hxl : xs.length ≤ maxLen) (hyl : ys.length ≤ maxLen) (hn16 : -32768 ≤ n ∧ n ≤ 32767) : Calls Tryd.prog 3 #[va, vb, .int .i16 n] w (Made (.bool true) w) := by
  by_cases h50 : 50 < xs.length ∨ 50 < ys.length
  · obtain ⟨ao, acap, rfl⟩ := ha.shape
    obtain ⟨bo, bcap, rfl⟩ := hb.shape
    unfold maxLen at hxl hyl
    clear ha hb hx hy
    by_cases h1 : 50 < xs.length
    · clear h50
      go_enter Tryd.func3, Tryd.ntmps3
      go_wp2_with fail
      refine (law_awake5 _).mono ?_
      rintro e w2 ⟨rfl, hb⟩
      go_wp2_with fail
      go_ret
      exact ⟨rfl, hb⟩
    · have h2 : 50 < ys.length := by omega
      clear h50
      go_enter Tryd.func3, Tryd.ntmps3
      go_wp2_with fail
      refine (law_awake5 _).mono ?_
      rintro e w2 ⟨rfl, hb⟩
      go_wp2_with fail
      go_ret
      exact ⟨rfl, hb⟩
  · have h1 : xs.length ≤ 50 := by omega
    have h2 : ys.length ≤ 50 := by omega
    by_cases h64 : xs.length + ys.length ≤ 64
    · by_cases hn : n < 0
      · exact lists_ok_neg w va vb xs ys n ha hb hx hy hn16 h1 h2 h64 hn
      · by_cases hN : 64 < n
        · exact lists_ok_big w va vb xs ys n ha hb hx hy hn16 h1 h2 h64 hN
        · exact lists_ok_mid w va vb xs ys n ha hb hx hy hn16 h1 h2 h64 ⟨hn, hN⟩
    · have h64' : 64 < xs.length + ys.length := by omega
      by_cases hn : n < 0
      · exact lists_long_neg w va vb xs ys n ha hb hx hy hn16 h1 h2 h64' hn
      · by_cases hN : 64 < n
        · exact lists_long_big w va vb xs ys n ha hb hx hy hn16 h1 h2 h64' hN
        · exact lists_long_mid w va vb xs ys n ha hb hx hy hn16 h1 h2 h64' ⟨hn, hN⟩
end
end Go.Proofs.YtihlbnflgjidaabDoor
