/- The law of texts of values, walked. -/
import Derived.Test.YtihlbnflgjidaabDoorFunG
import Derived.Test.YtihlbnflgjidaabDoorValF
namespace Go.Proofs.YtihlbnflgjidaabDoor
open Go.RowKit
set_option linter.unusedVariables false
set_option linter.unusedSimpArgs false

theorem one_blk {W : World} {g : Nat} {k n : Int} {s : ByteArray} (h : NBlk W g k n s) : RowRd W 1 [VL.mk k n s []] (.slice (some ⟨g, 0, none⟩) 1 1) := row_one (v := VL.mk k n s []) h (RowRd.nil _ _ _ _)
theorem t_str (W : World) {g : Nat} {s : ByteArray} (h : NBlk W g 2 0 s) : Calls Tryd.prog 8 #[.string ⟨#[116, 101, 120, 116]⟩, .slice (some ⟨g, 0, none⟩) 1 1] W (IsTold 2 0 s 0 W) :=
  call_text W 1 (VL.mk 2 0 s []) _ (one_blk h) s 0 fun lao ln lcap V => vtext_s V (VL.mk 2 0 s []) lao ln lcap rfl
theorem t_false (W : World) {g : Nat} (h : NBlk W g 3 0 ⟨#[]⟩) : Calls Tryd.prog 8 #[.string ⟨#[116, 101, 120, 116]⟩, .slice (some ⟨g, 0, none⟩) 1 1] W (IsTold 2 0 ⟨#[102, 97, 108, 115, 101]⟩ 0 W) :=
  call_text W 1 (VL.mk 3 0 ⟨#[]⟩ []) _ (one_blk h) ⟨#[102, 97, 108, 115, 101]⟩ 0 fun lao ln lcap V => vtext_b V (VL.mk 3 0 ⟨#[]⟩ []) lao ln lcap rfl
theorem t_true (W : World) {g : Nat} (h : NBlk W g 3 1 ⟨#[]⟩) : Calls Tryd.prog 8 #[.string ⟨#[116, 101, 120, 116]⟩, .slice (some ⟨g, 0, none⟩) 1 1] W (IsTold 2 0 ⟨#[116, 114, 117, 101]⟩ 0 W) :=
  call_text W 1 (VL.mk 3 1 ⟨#[]⟩ []) _ (one_blk h) ⟨#[116, 114, 117, 101]⟩ 0 fun lao ln lcap V => vtext_b V (VL.mk 3 1 ⟨#[]⟩ []) lao ln lcap rfl
theorem t_list (W : World) {g : Nat} (h : NBlk W g 4 0 ⟨#[]⟩) : Calls Tryd.prog 8 #[.string ⟨#[116, 101, 120, 116]⟩, .slice (some ⟨g, 0, none⟩) 1 1] W (IsTold 0 0 ⟨#[]⟩ 7 W) :=
  call_text W 1 (VL.mk 4 0 ⟨#[]⟩ []) _ (one_blk h) ⟨#[]⟩ 7 fun lao ln lcap V => vtext_l V (VL.mk 4 0 ⟨#[]⟩ []) lao ln lcap rfl
theorem t_len (W : World) {g : Nat} {s : ByteArray} (h : NBlk W g 2 0 s) (hs : s.size ≤ 1000000) : Calls Tryd.prog 8 #[.string ⟨#[108, 101, 110]⟩, .slice (some ⟨g, 0, none⟩) 1 1] W (IsTold 1 s.size ⟨#[]⟩ 0 W) :=
  call_len W 1 (VL.mk 2 0 s []) _ (one_blk h) hs (.inl rfl)
theorem t_abs (W : World) {g : Nat} {n : Int} (h : NBlk W g 1 n ⟨#[]⟩) (hn : -2147483648 ≤ n ∧ n ≤ 2147483647) : Calls Tryd.prog 8 #[.string ⟨#[97, 98, 115]⟩, .slice (some ⟨g, 0, none⟩) 1 1] W (IsTold 1 (if n < -n then -n else n) ⟨#[]⟩ 0 W) := by
  have h1 := call_abs W 1 (VL.mk 1 n ⟨#[]⟩ []) _ (one_blk h) rfl (by unfold I64; simp only [VL.num]; omega)
  have e : absR n = (vnum (if n < -n then -n else n), 0) := by
    unfold absR
    by_cases h0 : n < 0
    · rw [if_pos h0, if_pos (by omega), fit_in (by omega)]
      unfold numR
      rw [if_pos rfl, Int.zero_sub]
    · rw [if_neg h0, if_neg (by omega)]
  simp only [VL.num] at h1
  rw [e] at h1
  exact h1
theorem same_str (W : World) (s : ByteArray) : Calls Tryd.prog 12 #[.agg #[.int .i64 2, .int .i64 0, .string s, .slice none 0 0], .agg #[.int .i64 2, .int .i64 0, .string s, .slice none 0 0]] W (Made (.bool true) W) := by
  have := (rsame 0).call (vstr s) (vstr s) nilV nilV W (RowRd.nil _ _ _ _) (RowRd.nil _ _ _ _)
  rw [sameB_refl] at this
  exact this
set_option maxHeartbeats 8000000 in
set_option maxRecDepth 100000 in
theorem law_texts (w : World) (s : ByteArray) (z : Int) (b : Bool) (hs : s.size ≤ maxLen) (hz : -2147483648 ≤ z ∧ z ≤ 2147483647) :
    Calls Tryd.prog 6 #[.string s, .int .i32 z, .bool b] w (Made (.bool true) w) := by
  by_cases h3 : 300 < s.size
  · unfold maxLen at hs
    clear hz
    go_enter Tryd.func6, Tryd.ntmps6
    go_wp2_with fail
    with_reducible refine (law_awake5 _).mono ?_
    rintro e w1 ⟨rfl, hb1⟩
    go_wp2_with fail
    go_ret
    exact ⟨rfl, hb1⟩
  · have hs3 : s.size ≤ 300 := by omega
    have HZ := Lib.hid hz
    clear hs h3 hz
    cases b
    · go_enter Tryd.func6, Tryd.ntmps6
      go_wp2_with fail
      have T := Lib.hid ((NBlk.new w 2 0 s).al (.cells #[.int .i64 3, .int .i64 0, .string ⟨#[]⟩, .slice none 0 0] 27))
      have B := Lib.hid (NBlk.new (w.alloc (.cells #[.int .i64 2, .int .i64 0, .string s, .slice none 0 0] 27)) 3 0 ⟨#[]⟩)
      rw [show (w.alloc (.cells #[.int .i64 2, .int .i64 0, .string s, .slice none 0 0] 27)).heap.size = w.heap.size + 1 by simp] at B
      have K := Lib.hid (show Kept w _ from below_al (below_al (Below.refl w.heap.size w) (.cells #[.int .i64 2, .int .i64 0, .string s, .slice none 0 0] 27)) (.cells #[.int .i64 3, .int .i64 0, .string ⟨#[]⟩, .slice none 0 0] 27))
      have hS : ((w.alloc (.cells #[.int .i64 2, .int .i64 0, .string s, .slice none 0 0] 27)).alloc (.cells #[.int .i64 3, .int .i64 0, .string ⟨#[]⟩, .slice none 0 0] 27)).heap.size = w.heap.size + 1 + 1 := by simp
      rw [← hS]
      clear hS
      generalize (w.alloc (.cells #[.int .i64 2, .int .i64 0, .string s, .slice none 0 0] 27)).alloc (.cells #[.int .i64 3, .int .i64 0, .string ⟨#[]⟩, .slice none 0 0] 27) = w0 at *
      generalize hG : w.heap.size = G at T B ⊢
      clear hG
      refine (t_str _ (NBlk.new w0 2 0 s)).mono ?_
      rintro e w1 ⟨rfl, hb⟩
      replace T := Lib.hid (T.out.below (below_tr (below_al (Below.refl _ _) _) hb))
      replace B := Lib.hid (B.out.below (below_tr (below_al (Below.refl _ _) _) hb))
      replace K := Lib.hid (kept_tr (kept_al K.out _) hb)
      clear hb
      obtain ⟨b0, b1, b2, b3, bl⟩ := B.out.cells
      go_wp2_with fail
      clear b0 b1 b2 b3 bl
      have X := Lib.hid (NBlk.new w1 2 0 s)
      replace T := Lib.hid (T.out.al (.cells #[.int .i64 2, .int .i64 0, .string s, .slice none 0 0] 27))
      replace B := Lib.hid (B.out.al (.cells #[.int .i64 2, .int .i64 0, .string s, .slice none 0 0] 27))
      replace K := Lib.hid (kept_al K.out (.cells #[.int .i64 2, .int .i64 0, .string s, .slice none 0 0] 27))
      rw [show w1.heap.size + 1 = (w1.alloc (.cells #[.int .i64 2, .int .i64 0, .string s, .slice none 0 0] 27)).heap.size by simp]
      generalize w1.alloc (.cells #[.int .i64 2, .int .i64 0, .string s, .slice none 0 0] 27) = v1 at *
      generalize w1.heap.size = GX at X ⊢
      refine (t_false _ (NBlk.new v1 3 0 ⟨#[]⟩)).mono ?_
      rintro e w2 ⟨rfl, hb⟩
      replace T := Lib.hid (T.out.below (below_tr (below_al (Below.refl _ _) _) hb))
      replace B := Lib.hid (B.out.below (below_tr (below_al (Below.refl _ _) _) hb))
      replace X := Lib.hid (X.out.below (below_tr (below_al (Below.refl _ _) _) hb))
      replace K := Lib.hid (kept_tr (kept_al K.out _) hb)
      clear hb
      obtain ⟨t0, t1, t2, t3, tl⟩ := T.out.cells
      go_wp2_with fail
      clear t0 t1 t2 t3 tl
      have Y := Lib.hid (NBlk.new w2 2 0 ⟨#[102, 97, 108, 115, 101]⟩)
      replace T := Lib.hid (T.out.al (.cells #[.int .i64 2, .int .i64 0, .string ⟨#[102, 97, 108, 115, 101]⟩, .slice none 0 0] 27))
      replace B := Lib.hid (B.out.al (.cells #[.int .i64 2, .int .i64 0, .string ⟨#[102, 97, 108, 115, 101]⟩, .slice none 0 0] 27))
      replace X := Lib.hid (X.out.al (.cells #[.int .i64 2, .int .i64 0, .string ⟨#[102, 97, 108, 115, 101]⟩, .slice none 0 0] 27))
      replace K := Lib.hid (kept_al K.out (.cells #[.int .i64 2, .int .i64 0, .string ⟨#[102, 97, 108, 115, 101]⟩, .slice none 0 0] 27))
      rw [show w2.heap.size + 1 = (w2.alloc (.cells #[.int .i64 2, .int .i64 0, .string ⟨#[102, 97, 108, 115, 101]⟩, .slice none 0 0] 27)).heap.size by simp]
      generalize w2.alloc (.cells #[.int .i64 2, .int .i64 0, .string ⟨#[102, 97, 108, 115, 101]⟩, .slice none 0 0] 27) = v2 at *
      generalize w2.heap.size = GY at Y ⊢
      refine (t_len _ (NBlk.new v2 2 0 s) (by omega)).mono ?_
      rintro e w3 ⟨rfl, hb⟩
      replace T := Lib.hid (T.out.below (below_tr (below_al (Below.refl _ _) _) hb))
      replace B := Lib.hid (B.out.below (below_tr (below_al (Below.refl _ _) _) hb))
      replace X := Lib.hid (X.out.below (below_tr (below_al (Below.refl _ _) _) hb))
      replace Y := Lib.hid (Y.out.below (below_tr (below_al (Below.refl _ _) _) hb))
      replace K := Lib.hid (kept_tr (kept_al K.out _) hb)
      clear hb
      go_wp2_with fail
      have Z := Lib.hid (NBlk.new w3 1 (s.size : Int) ⟨#[]⟩)
      replace T := Lib.hid (T.out.al (.cells #[.int .i64 1, .int .i64 (s.size : Int), .string ⟨#[]⟩, .slice none 0 0] 27))
      replace B := Lib.hid (B.out.al (.cells #[.int .i64 1, .int .i64 (s.size : Int), .string ⟨#[]⟩, .slice none 0 0] 27))
      replace X := Lib.hid (X.out.al (.cells #[.int .i64 1, .int .i64 (s.size : Int), .string ⟨#[]⟩, .slice none 0 0] 27))
      replace Y := Lib.hid (Y.out.al (.cells #[.int .i64 1, .int .i64 (s.size : Int), .string ⟨#[]⟩, .slice none 0 0] 27))
      replace K := Lib.hid (kept_al K.out (.cells #[.int .i64 1, .int .i64 (s.size : Int), .string ⟨#[]⟩, .slice none 0 0] 27))
      rw [show w3.heap.size + 1 = (w3.alloc (.cells #[.int .i64 1, .int .i64 (s.size : Int), .string ⟨#[]⟩, .slice none 0 0] 27)).heap.size by simp]
      generalize w3.alloc (.cells #[.int .i64 1, .int .i64 (s.size : Int), .string ⟨#[]⟩, .slice none 0 0] 27) = v3 at *
      generalize w3.heap.size = GZ at Z ⊢
      refine (t_list _ (NBlk.new v3 4 0 ⟨#[]⟩)).mono ?_
      rintro e w4 ⟨rfl, hb⟩
      replace T := Lib.hid (T.out.below (below_tr (below_al (Below.refl _ _) _) hb))
      replace B := Lib.hid (B.out.below (below_tr (below_al (Below.refl _ _) _) hb))
      replace X := Lib.hid (X.out.below (below_tr (below_al (Below.refl _ _) _) hb))
      replace Y := Lib.hid (Y.out.below (below_tr (below_al (Below.refl _ _) _) hb))
      replace Z := Lib.hid (Z.out.below (below_tr (below_al (Below.refl _ _) _) hb))
      replace K := Lib.hid (kept_tr (kept_al K.out _) hb)
      clear hb
      have hz := HZ.out
      go_wp2_with fail
      have L := Lib.hid (NBlk.new w4 0 0 ⟨#[]⟩)
      replace T := Lib.hid (T.out.al (.cells #[.int .i64 0, .int .i64 0, .string ⟨#[]⟩, .slice none 0 0] 27))
      replace B := Lib.hid (B.out.al (.cells #[.int .i64 0, .int .i64 0, .string ⟨#[]⟩, .slice none 0 0] 27))
      replace X := Lib.hid (X.out.al (.cells #[.int .i64 0, .int .i64 0, .string ⟨#[]⟩, .slice none 0 0] 27))
      replace Y := Lib.hid (Y.out.al (.cells #[.int .i64 0, .int .i64 0, .string ⟨#[]⟩, .slice none 0 0] 27))
      replace Z := Lib.hid (Z.out.al (.cells #[.int .i64 0, .int .i64 0, .string ⟨#[]⟩, .slice none 0 0] 27))
      replace K := Lib.hid (kept_al K.out (.cells #[.int .i64 0, .int .i64 0, .string ⟨#[]⟩, .slice none 0 0] 27))
      generalize w4.alloc (.cells #[.int .i64 0, .int .i64 0, .string ⟨#[]⟩, .slice none 0 0] 27) = v4 at *
      generalize w4.heap.size = GL at L ⊢
      refine (lval5 _ _).mono ?_
      rintro e w5 ⟨rfl, hb⟩
      replace T := Lib.hid (T.out.below hb)
      replace B := Lib.hid (B.out.below hb)
      replace X := Lib.hid (X.out.below hb)
      replace Y := Lib.hid (Y.out.below hb)
      replace Z := Lib.hid (Z.out.below hb)
      replace L := Lib.hid (L.out.below hb)
      replace K := Lib.hid (kept_tr K.out hb)
      clear hb
      go_wp2_with fail
      refine (t_abs _ (NBlk.new w5 1 z ⟨#[]⟩) hz).mono ?_
      rintro e w6 ⟨rfl, hb⟩
      replace T := Lib.hid (T.out.below (below_tr (below_al (Below.refl _ _) _) hb))
      replace B := Lib.hid (B.out.below (below_tr (below_al (Below.refl _ _) _) hb))
      replace X := Lib.hid (X.out.below (below_tr (below_al (Below.refl _ _) _) hb))
      replace Y := Lib.hid (Y.out.below (below_tr (below_al (Below.refl _ _) _) hb))
      replace Z := Lib.hid (Z.out.below (below_tr (below_al (Below.refl _ _) _) hb))
      replace L := Lib.hid (L.out.below (below_tr (below_al (Below.refl _ _) _) hb))
      replace K := Lib.hid (kept_tr (kept_al K.out _) hb)
      clear hb
      have hng : IntKind.i64.wrap (-z) = -z := by rw [IntKind.wrap_i64]; omega
      generalize hM : (if z < -z then -z else z) = M at *
      go_wp2_with fail
      have Q := Lib.hid (NBlk.new w6 1 M ⟨#[]⟩)
      replace T := Lib.hid (T.out.al (.cells #[.int .i64 1, .int .i64 M, .string ⟨#[]⟩, .slice none 0 0] 27))
      replace B := Lib.hid (B.out.al (.cells #[.int .i64 1, .int .i64 M, .string ⟨#[]⟩, .slice none 0 0] 27))
      replace X := Lib.hid (X.out.al (.cells #[.int .i64 1, .int .i64 M, .string ⟨#[]⟩, .slice none 0 0] 27))
      replace Y := Lib.hid (Y.out.al (.cells #[.int .i64 1, .int .i64 M, .string ⟨#[]⟩, .slice none 0 0] 27))
      replace Z := Lib.hid (Z.out.al (.cells #[.int .i64 1, .int .i64 M, .string ⟨#[]⟩, .slice none 0 0] 27))
      replace L := Lib.hid (L.out.al (.cells #[.int .i64 1, .int .i64 M, .string ⟨#[]⟩, .slice none 0 0] 27))
      replace K := Lib.hid (kept_al K.out (.cells #[.int .i64 1, .int .i64 M, .string ⟨#[]⟩, .slice none 0 0] 27))
      generalize w6.alloc (.cells #[.int .i64 1, .int .i64 M, .string ⟨#[]⟩, .slice none 0 0] 27) = v6 at *
      generalize w6.heap.size = GQ at Q ⊢
      refine (lnum _ _).mono ?_
      rintro e w' ⟨rfl, rfl⟩
      obtain ⟨x0, x1, x2, x3, xl⟩ := X.out.cells
      obtain ⟨t0, t1, t2, t3, tl⟩ := T.out.cells
      obtain ⟨y0, y1, y2, y3, yl⟩ := Y.out.cells
      obtain ⟨z0, z1, z2, z3, zl⟩ := Z.out.cells
      obtain ⟨q0, q1, q2, q3, ql⟩ := Q.out.cells
      go_wp2_with fail
      refine (same_str _ _).mono ?_
      rintro e w7 ⟨rfl, hb⟩
      clear x0 x1 x2 x3 xl t0 t1 t2 t3 tl y0 y1 y2 y3 yl z0 z1 z2 z3 zl q0 q1 q2 q3 ql
      replace Y := Lib.hid (Y.out.below hb)
      replace Z := Lib.hid (Z.out.below hb)
      replace Q := Lib.hid (Q.out.below hb)
      replace K := Lib.hid (kept_tr K.out hb)
      clear hb
      obtain ⟨y0, y1, y2, y3, yl⟩ := Y.out.cells
      obtain ⟨z0, z1, z2, z3, zl⟩ := Z.out.cells
      obtain ⟨q0, q1, q2, q3, ql⟩ := Q.out.cells
      go_wp2_with fail
      refine (lnum _ _).mono ?_
      rintro e w' ⟨rfl, rfl⟩
      go_wp2_with fail
      refine (lnum _ _).mono ?_
      rintro e w' ⟨rfl, rfl⟩
      go_wp2_with fail
      refine (lnum _ _).mono ?_
      rintro e w' ⟨rfl, rfl⟩
      go_wp2_with fail
      refine (lnum _ _).mono ?_
      rintro e w' ⟨rfl, rfl⟩
      go_wp2_with fail
      refine (law_awake5 _).mono ?_
      rintro e w8 ⟨rfl, hb⟩
      replace K := Lib.hid (kept_tr K.out hb)
      clear hb
      go_wp2_with fail
      go_ret
      exact ⟨rfl, K.out⟩
    · go_enter Tryd.func6, Tryd.ntmps6
      go_wp2_with fail
      have T := Lib.hid ((NBlk.new w 2 0 s).al (.cells #[.int .i64 3, .int .i64 1, .string ⟨#[]⟩, .slice none 0 0] 27))
      have B := Lib.hid (NBlk.new (w.alloc (.cells #[.int .i64 2, .int .i64 0, .string s, .slice none 0 0] 27)) 3 1 ⟨#[]⟩)
      rw [show (w.alloc (.cells #[.int .i64 2, .int .i64 0, .string s, .slice none 0 0] 27)).heap.size = w.heap.size + 1 by simp] at B
      have K := Lib.hid (show Kept w _ from below_al (below_al (Below.refl w.heap.size w) (.cells #[.int .i64 2, .int .i64 0, .string s, .slice none 0 0] 27)) (.cells #[.int .i64 3, .int .i64 1, .string ⟨#[]⟩, .slice none 0 0] 27))
      have hS : ((w.alloc (.cells #[.int .i64 2, .int .i64 0, .string s, .slice none 0 0] 27)).alloc (.cells #[.int .i64 3, .int .i64 1, .string ⟨#[]⟩, .slice none 0 0] 27)).heap.size = w.heap.size + 1 + 1 := by simp
      rw [← hS]
      clear hS
      generalize (w.alloc (.cells #[.int .i64 2, .int .i64 0, .string s, .slice none 0 0] 27)).alloc (.cells #[.int .i64 3, .int .i64 1, .string ⟨#[]⟩, .slice none 0 0] 27) = w0 at *
      generalize hG : w.heap.size = G at T B ⊢
      clear hG
      refine (t_str _ (NBlk.new w0 2 0 s)).mono ?_
      rintro e w1 ⟨rfl, hb⟩
      replace T := Lib.hid (T.out.below (below_tr (below_al (Below.refl _ _) _) hb))
      replace B := Lib.hid (B.out.below (below_tr (below_al (Below.refl _ _) _) hb))
      replace K := Lib.hid (kept_tr (kept_al K.out _) hb)
      clear hb
      obtain ⟨b0, b1, b2, b3, bl⟩ := B.out.cells
      go_wp2_with fail
      clear b0 b1 b2 b3 bl
      have X := Lib.hid (NBlk.new w1 2 0 s)
      replace T := Lib.hid (T.out.al (.cells #[.int .i64 2, .int .i64 0, .string s, .slice none 0 0] 27))
      replace B := Lib.hid (B.out.al (.cells #[.int .i64 2, .int .i64 0, .string s, .slice none 0 0] 27))
      replace K := Lib.hid (kept_al K.out (.cells #[.int .i64 2, .int .i64 0, .string s, .slice none 0 0] 27))
      rw [show w1.heap.size + 1 = (w1.alloc (.cells #[.int .i64 2, .int .i64 0, .string s, .slice none 0 0] 27)).heap.size by simp]
      generalize w1.alloc (.cells #[.int .i64 2, .int .i64 0, .string s, .slice none 0 0] 27) = v1 at *
      generalize w1.heap.size = GX at X ⊢
      refine (t_true _ (NBlk.new v1 3 1 ⟨#[]⟩)).mono ?_
      rintro e w2 ⟨rfl, hb⟩
      replace T := Lib.hid (T.out.below (below_tr (below_al (Below.refl _ _) _) hb))
      replace B := Lib.hid (B.out.below (below_tr (below_al (Below.refl _ _) _) hb))
      replace X := Lib.hid (X.out.below (below_tr (below_al (Below.refl _ _) _) hb))
      replace K := Lib.hid (kept_tr (kept_al K.out _) hb)
      clear hb
      obtain ⟨t0, t1, t2, t3, tl⟩ := T.out.cells
      go_wp2_with fail
      clear t0 t1 t2 t3 tl
      have Y := Lib.hid (NBlk.new w2 2 0 ⟨#[116, 114, 117, 101]⟩)
      replace T := Lib.hid (T.out.al (.cells #[.int .i64 2, .int .i64 0, .string ⟨#[116, 114, 117, 101]⟩, .slice none 0 0] 27))
      replace B := Lib.hid (B.out.al (.cells #[.int .i64 2, .int .i64 0, .string ⟨#[116, 114, 117, 101]⟩, .slice none 0 0] 27))
      replace X := Lib.hid (X.out.al (.cells #[.int .i64 2, .int .i64 0, .string ⟨#[116, 114, 117, 101]⟩, .slice none 0 0] 27))
      replace K := Lib.hid (kept_al K.out (.cells #[.int .i64 2, .int .i64 0, .string ⟨#[116, 114, 117, 101]⟩, .slice none 0 0] 27))
      rw [show w2.heap.size + 1 = (w2.alloc (.cells #[.int .i64 2, .int .i64 0, .string ⟨#[116, 114, 117, 101]⟩, .slice none 0 0] 27)).heap.size by simp]
      generalize w2.alloc (.cells #[.int .i64 2, .int .i64 0, .string ⟨#[116, 114, 117, 101]⟩, .slice none 0 0] 27) = v2 at *
      generalize w2.heap.size = GY at Y ⊢
      refine (t_len _ (NBlk.new v2 2 0 s) (by omega)).mono ?_
      rintro e w3 ⟨rfl, hb⟩
      replace T := Lib.hid (T.out.below (below_tr (below_al (Below.refl _ _) _) hb))
      replace B := Lib.hid (B.out.below (below_tr (below_al (Below.refl _ _) _) hb))
      replace X := Lib.hid (X.out.below (below_tr (below_al (Below.refl _ _) _) hb))
      replace Y := Lib.hid (Y.out.below (below_tr (below_al (Below.refl _ _) _) hb))
      replace K := Lib.hid (kept_tr (kept_al K.out _) hb)
      clear hb
      go_wp2_with fail
      have Z := Lib.hid (NBlk.new w3 1 (s.size : Int) ⟨#[]⟩)
      replace T := Lib.hid (T.out.al (.cells #[.int .i64 1, .int .i64 (s.size : Int), .string ⟨#[]⟩, .slice none 0 0] 27))
      replace B := Lib.hid (B.out.al (.cells #[.int .i64 1, .int .i64 (s.size : Int), .string ⟨#[]⟩, .slice none 0 0] 27))
      replace X := Lib.hid (X.out.al (.cells #[.int .i64 1, .int .i64 (s.size : Int), .string ⟨#[]⟩, .slice none 0 0] 27))
      replace Y := Lib.hid (Y.out.al (.cells #[.int .i64 1, .int .i64 (s.size : Int), .string ⟨#[]⟩, .slice none 0 0] 27))
      replace K := Lib.hid (kept_al K.out (.cells #[.int .i64 1, .int .i64 (s.size : Int), .string ⟨#[]⟩, .slice none 0 0] 27))
      rw [show w3.heap.size + 1 = (w3.alloc (.cells #[.int .i64 1, .int .i64 (s.size : Int), .string ⟨#[]⟩, .slice none 0 0] 27)).heap.size by simp]
      generalize w3.alloc (.cells #[.int .i64 1, .int .i64 (s.size : Int), .string ⟨#[]⟩, .slice none 0 0] 27) = v3 at *
      generalize w3.heap.size = GZ at Z ⊢
      refine (t_list _ (NBlk.new v3 4 0 ⟨#[]⟩)).mono ?_
      rintro e w4 ⟨rfl, hb⟩
      replace T := Lib.hid (T.out.below (below_tr (below_al (Below.refl _ _) _) hb))
      replace B := Lib.hid (B.out.below (below_tr (below_al (Below.refl _ _) _) hb))
      replace X := Lib.hid (X.out.below (below_tr (below_al (Below.refl _ _) _) hb))
      replace Y := Lib.hid (Y.out.below (below_tr (below_al (Below.refl _ _) _) hb))
      replace Z := Lib.hid (Z.out.below (below_tr (below_al (Below.refl _ _) _) hb))
      replace K := Lib.hid (kept_tr (kept_al K.out _) hb)
      clear hb
      have hz := HZ.out
      go_wp2_with fail
      have L := Lib.hid (NBlk.new w4 0 0 ⟨#[]⟩)
      replace T := Lib.hid (T.out.al (.cells #[.int .i64 0, .int .i64 0, .string ⟨#[]⟩, .slice none 0 0] 27))
      replace B := Lib.hid (B.out.al (.cells #[.int .i64 0, .int .i64 0, .string ⟨#[]⟩, .slice none 0 0] 27))
      replace X := Lib.hid (X.out.al (.cells #[.int .i64 0, .int .i64 0, .string ⟨#[]⟩, .slice none 0 0] 27))
      replace Y := Lib.hid (Y.out.al (.cells #[.int .i64 0, .int .i64 0, .string ⟨#[]⟩, .slice none 0 0] 27))
      replace Z := Lib.hid (Z.out.al (.cells #[.int .i64 0, .int .i64 0, .string ⟨#[]⟩, .slice none 0 0] 27))
      replace K := Lib.hid (kept_al K.out (.cells #[.int .i64 0, .int .i64 0, .string ⟨#[]⟩, .slice none 0 0] 27))
      generalize w4.alloc (.cells #[.int .i64 0, .int .i64 0, .string ⟨#[]⟩, .slice none 0 0] 27) = v4 at *
      generalize w4.heap.size = GL at L ⊢
      refine (lval5 _ _).mono ?_
      rintro e w5 ⟨rfl, hb⟩
      replace T := Lib.hid (T.out.below hb)
      replace B := Lib.hid (B.out.below hb)
      replace X := Lib.hid (X.out.below hb)
      replace Y := Lib.hid (Y.out.below hb)
      replace Z := Lib.hid (Z.out.below hb)
      replace L := Lib.hid (L.out.below hb)
      replace K := Lib.hid (kept_tr K.out hb)
      clear hb
      go_wp2_with fail
      refine (t_abs _ (NBlk.new w5 1 z ⟨#[]⟩) hz).mono ?_
      rintro e w6 ⟨rfl, hb⟩
      replace T := Lib.hid (T.out.below (below_tr (below_al (Below.refl _ _) _) hb))
      replace B := Lib.hid (B.out.below (below_tr (below_al (Below.refl _ _) _) hb))
      replace X := Lib.hid (X.out.below (below_tr (below_al (Below.refl _ _) _) hb))
      replace Y := Lib.hid (Y.out.below (below_tr (below_al (Below.refl _ _) _) hb))
      replace Z := Lib.hid (Z.out.below (below_tr (below_al (Below.refl _ _) _) hb))
      replace L := Lib.hid (L.out.below (below_tr (below_al (Below.refl _ _) _) hb))
      replace K := Lib.hid (kept_tr (kept_al K.out _) hb)
      clear hb
      have hng : IntKind.i64.wrap (-z) = -z := by rw [IntKind.wrap_i64]; omega
      generalize hM : (if z < -z then -z else z) = M at *
      go_wp2_with fail
      have Q := Lib.hid (NBlk.new w6 1 M ⟨#[]⟩)
      replace T := Lib.hid (T.out.al (.cells #[.int .i64 1, .int .i64 M, .string ⟨#[]⟩, .slice none 0 0] 27))
      replace B := Lib.hid (B.out.al (.cells #[.int .i64 1, .int .i64 M, .string ⟨#[]⟩, .slice none 0 0] 27))
      replace X := Lib.hid (X.out.al (.cells #[.int .i64 1, .int .i64 M, .string ⟨#[]⟩, .slice none 0 0] 27))
      replace Y := Lib.hid (Y.out.al (.cells #[.int .i64 1, .int .i64 M, .string ⟨#[]⟩, .slice none 0 0] 27))
      replace Z := Lib.hid (Z.out.al (.cells #[.int .i64 1, .int .i64 M, .string ⟨#[]⟩, .slice none 0 0] 27))
      replace L := Lib.hid (L.out.al (.cells #[.int .i64 1, .int .i64 M, .string ⟨#[]⟩, .slice none 0 0] 27))
      replace K := Lib.hid (kept_al K.out (.cells #[.int .i64 1, .int .i64 M, .string ⟨#[]⟩, .slice none 0 0] 27))
      generalize w6.alloc (.cells #[.int .i64 1, .int .i64 M, .string ⟨#[]⟩, .slice none 0 0] 27) = v6 at *
      generalize w6.heap.size = GQ at Q ⊢
      refine (lnum _ _).mono ?_
      rintro e w' ⟨rfl, rfl⟩
      obtain ⟨x0, x1, x2, x3, xl⟩ := X.out.cells
      obtain ⟨t0, t1, t2, t3, tl⟩ := T.out.cells
      obtain ⟨y0, y1, y2, y3, yl⟩ := Y.out.cells
      obtain ⟨z0, z1, z2, z3, zl⟩ := Z.out.cells
      obtain ⟨q0, q1, q2, q3, ql⟩ := Q.out.cells
      go_wp2_with fail
      refine (same_str _ _).mono ?_
      rintro e w7 ⟨rfl, hb⟩
      clear x0 x1 x2 x3 xl t0 t1 t2 t3 tl y0 y1 y2 y3 yl z0 z1 z2 z3 zl q0 q1 q2 q3 ql
      replace Y := Lib.hid (Y.out.below hb)
      replace Z := Lib.hid (Z.out.below hb)
      replace Q := Lib.hid (Q.out.below hb)
      replace K := Lib.hid (kept_tr K.out hb)
      clear hb
      obtain ⟨y0, y1, y2, y3, yl⟩ := Y.out.cells
      obtain ⟨z0, z1, z2, z3, zl⟩ := Z.out.cells
      obtain ⟨q0, q1, q2, q3, ql⟩ := Q.out.cells
      go_wp2_with fail
      refine (lnum _ _).mono ?_
      rintro e w' ⟨rfl, rfl⟩
      go_wp2_with fail
      refine (lnum _ _).mono ?_
      rintro e w' ⟨rfl, rfl⟩
      go_wp2_with fail
      refine (lnum _ _).mono ?_
      rintro e w' ⟨rfl, rfl⟩
      go_wp2_with fail
      refine (lnum _ _).mono ?_
      rintro e w' ⟨rfl, rfl⟩
      go_wp2_with fail
      refine (law_awake5 _).mono ?_
      rintro e w8 ⟨rfl, hb⟩
      replace K := Lib.hid (kept_tr K.out hb)
      clear hb
      go_wp2_with fail
      go_ret
      exact ⟨rfl, K.out⟩
end Go.Proofs.YtihlbnflgjidaabDoor
