/- The law of sums, walked. -/
import Derived.Test.YtfefkbmpkggocaaValIa
import Derived.Test.YtfefkbmpkggocaaValIb
import Derived.Test.YtfefkbmpkggocaaValIc
namespace Go.Proofs.Ytfefkbmpkggocaa
open Go.RowKit
set_option linter.unusedVariables false
set_option linter.unusedSimpArgs false

theorem mul_i32 {a b : Int} (ha : -2147483648 ≤ a ∧ a ≤ 2147483647) (hb : -2147483648 ≤ b ∧ b ≤ 2147483647) : -4611686018427387904 ≤ a * b ∧ a * b ≤ 4611686018427387904 := by
  have h : (a * b).natAbs = a.natAbs * b.natAbs := Int.natAbs_mul a b
  have h1 : a.natAbs * b.natAbs ≤ 2147483648 * 2147483648 := Nat.mul_le_mul (by omega) (by omega)
  omega
theorem quo_i32 {a b : Int} (ha : -2147483648 ≤ a ∧ a ≤ 2147483647) : -2147483648 ≤ a.tdiv b ∧ a.tdiv b ≤ 2147483648 := by
  have hq : (a.tdiv b).natAbs = a.natAbs / b.natAbs := Int.natAbs_tdiv _ _
  have h1 : a.natAbs / b.natAbs ≤ a.natAbs := Nat.div_le_self _ _
  omega

set_option maxHeartbeats 8000000 in
set_option maxRecDepth 100000 in
theorem law_sums0 (w : World) (a b f : Int) (hz : b = 0) (ha : -2147483648 ≤ a ∧ a ≤ 2147483647) (hb : -2147483648 ≤ b ∧ b ≤ 2147483647) (hf : 0 ≤ f ∧ f ≤ 255) :
    Calls Try.prog 4 #[.int .i32 a, .int .i32 b, .int .u8 f] w (Made (.bool true) w) := by
  have hm := mul_i32 ha hb
  have ia : I64 a := by unfold I64; omega
  have ib : I64 b := by unfold I64; omega
  have T1 := Lib.hid (fun W => two_ok W 19 a b (a + b) (by omega) ia ib (fit_in (by omega)))
  have T2 := Lib.hid (fun W => two_ok W 20 a b (a - b) (by omega) ia ib (fit_in (by omega)))
  have T3 := Lib.hid (fun W => two_ok W 21 a b (a * b) (by omega) ia ib (fit_in (by omega)))
  have i1 : I64 (1 + f) := by unfold I64; omega
  have i2 : I64 (2 + f) := by unfold I64; omega
  have im : I64 (-1) := by unfold I64; omega
  have ig : I64 9223372036854775807 := by unfold I64; omega
  have il : I64 (-9223372036854775808) := by unfold I64; omega
  have U1 := Lib.hid (fun W => two_bad W 19 9223372036854775807 (1 + f) 8 (by omega) ig i1 (fit_out (by omega)) (by omega))
  have U2 := Lib.hid (fun W => two_bad W 20 (-9223372036854775808) (1 + f) 8 (by omega) il i1 (fit_out (by omega)) (by omega))
  have U3 := Lib.hid (fun W => two_bad W 21 9223372036854775807 (2 + f) 8 (by omega) ig i2 (fit_out (by omega)) (by omega))
  have U4 := Lib.hid (fun W => show Calls Try.prog 9 #[.int .i64 9, .agg #[.int .i64 1, .int .i64 (-9223372036854775808), .string ⟨#[]⟩, .slice none 0 0]] W (IsTold 0 0 ⟨#[]⟩ 8 W) from vone W 0 (vnum (-9223372036854775808)) nilV 9 (RowRd.nil W 0 none 0) il)
  have U5 := Lib.hid (fun W => two_bad W 22 (-9223372036854775808) (-1) 8 (by omega) il im rfl (by omega))
  have U6 := Lib.hid (fun W => two_bad W 21 (-1) (-9223372036854775808) 8 (by omega) im il rfl (by omega))
  clear i1 i2 im ig il
  obtain ⟨hm1, hm2⟩ := hm
  obtain ⟨ha1, ha2⟩ := ha
  obtain ⟨hb1, hb2⟩ := hb
  obtain ⟨hf1, hf2⟩ := hf
  have g0 : (b == 0) = true := by simpa using hz
  have g00 : (b != 0) = false := by simpa using hz
  have T4 := Lib.hid (fun W => two_bad W 22 a b 9 (by omega) ia ib (show quoR a b = _ from if_pos hz) (by omega))
  have T5 := Lib.hid (fun W => two_bad W 23 a b 9 (by omega) ia ib (show modR a b = _ from if_pos hz) (by omega))
  clear hz
  clear ia ib
  go_enter Try.func4, Try.ntmps4
  go_wp2_with fail
  refine (lval _ a).mono ?_
  rintro e w1 ⟨rfl, hb⟩
  have K := Lib.hid (show Kept w w1 from hb)
  clear hb
  go_wp2_with fail
  refine (lval _ b).mono ?_
  rintro e w2 ⟨rfl, hb⟩
  replace K := Lib.hid (kept_tr K.out hb)
  clear hb
  go_wp2_with fail
  have X := Lib.hid ((NBlk.new w2 1 a ⟨#[]⟩).al (.cells #[.int .i64 1, .int .i64 b, .string ⟨#[]⟩, .slice none 0 0] 26))
  have Y := Lib.hid (NBlk.new (w2.alloc (.cells #[.int .i64 1, .int .i64 a, .string ⟨#[]⟩, .slice none 0 0] 26)) 1 b ⟨#[]⟩)
  rw [show (w2.alloc (.cells #[.int .i64 1, .int .i64 a, .string ⟨#[]⟩, .slice none 0 0] 26)).heap.size = w2.heap.size + 1 by simp] at Y
  replace K := Lib.hid (kept_al (kept_al K.out (.cells #[.int .i64 1, .int .i64 a, .string ⟨#[]⟩, .slice none 0 0] 26)) (.cells #[.int .i64 1, .int .i64 b, .string ⟨#[]⟩, .slice none 0 0] 26))
  generalize (w2.alloc (.cells #[.int .i64 1, .int .i64 a, .string ⟨#[]⟩, .slice none 0 0] 26)).alloc (.cells #[.int .i64 1, .int .i64 b, .string ⟨#[]⟩, .slice none 0 0] 26) = w3 at *
  generalize w2.heap.size + 1 = gy at *
  generalize w2.heap.size = gx at *
  (with_reducible refine (T1.out _).mono ?_)
  rintro e w4 ⟨rfl, hb⟩
  replace X := Lib.hid (X.out.below hb)
  replace Y := Lib.hid (Y.out.below hb)
  replace K := Lib.hid (kept_tr K.out hb)
  clear hb
  obtain ⟨cX0, cX1, cX2, cX3, cXl⟩ := X.out.cells
  obtain ⟨cY0, cY1, cY2, cY3, cYl⟩ := Y.out.cells
  go_wp2_with fail
  clear cX0 cX1 cX2 cX3 cXl cY0 cY1 cY2 cY3 cYl
  replace X := Lib.hid (X.out.al (.cells #[.int .i64 1, .int .i64 (a + b), .string ⟨#[]⟩, .slice none 0 0] 26))
  replace Y := Lib.hid (Y.out.al (.cells #[.int .i64 1, .int .i64 (a + b), .string ⟨#[]⟩, .slice none 0 0] 26))
  have S := Lib.hid (NBlk.new w4 1 (a + b) ⟨#[]⟩)
  replace K := Lib.hid (kept_al K.out (.cells #[.int .i64 1, .int .i64 (a + b), .string ⟨#[]⟩, .slice none 0 0] 26))
  generalize w4.alloc (.cells #[.int .i64 1, .int .i64 (a + b), .string ⟨#[]⟩, .slice none 0 0] 26) = w5 at *
  generalize w4.heap.size = gs at *
  (with_reducible refine (T2.out _).mono ?_)
  rintro e w6 ⟨rfl, hb⟩
  replace X := Lib.hid (X.out.below hb)
  replace Y := Lib.hid (Y.out.below hb)
  replace S := Lib.hid (S.out.below hb)
  replace K := Lib.hid (kept_tr K.out hb)
  clear hb
  obtain ⟨cX0, cX1, cX2, cX3, cXl⟩ := X.out.cells
  obtain ⟨cY0, cY1, cY2, cY3, cYl⟩ := Y.out.cells
  go_wp2_with fail
  clear cX0 cX1 cX2 cX3 cXl cY0 cY1 cY2 cY3 cYl
  replace X := Lib.hid (X.out.al (.cells #[.int .i64 1, .int .i64 (a - b), .string ⟨#[]⟩, .slice none 0 0] 26))
  replace Y := Lib.hid (Y.out.al (.cells #[.int .i64 1, .int .i64 (a - b), .string ⟨#[]⟩, .slice none 0 0] 26))
  replace S := Lib.hid (S.out.al (.cells #[.int .i64 1, .int .i64 (a - b), .string ⟨#[]⟩, .slice none 0 0] 26))
  have D := Lib.hid (NBlk.new w6 1 (a - b) ⟨#[]⟩)
  replace K := Lib.hid (kept_al K.out (.cells #[.int .i64 1, .int .i64 (a - b), .string ⟨#[]⟩, .slice none 0 0] 26))
  generalize w6.alloc (.cells #[.int .i64 1, .int .i64 (a - b), .string ⟨#[]⟩, .slice none 0 0] 26) = w7 at *
  generalize w6.heap.size = gd at *
  (with_reducible refine (T3.out _).mono ?_)
  rintro e w8 ⟨rfl, hb⟩
  replace X := Lib.hid (X.out.below hb)
  replace Y := Lib.hid (Y.out.below hb)
  replace S := Lib.hid (S.out.below hb)
  replace D := Lib.hid (D.out.below hb)
  replace K := Lib.hid (kept_tr K.out hb)
  clear hb
  obtain ⟨cX0, cX1, cX2, cX3, cXl⟩ := X.out.cells
  obtain ⟨cY0, cY1, cY2, cY3, cYl⟩ := Y.out.cells
  go_wp2_with fail
  clear cX0 cX1 cX2 cX3 cXl cY0 cY1 cY2 cY3 cYl
  replace X := Lib.hid (X.out.al (.cells #[.int .i64 1, .int .i64 (a * b), .string ⟨#[]⟩, .slice none 0 0] 26))
  replace Y := Lib.hid (Y.out.al (.cells #[.int .i64 1, .int .i64 (a * b), .string ⟨#[]⟩, .slice none 0 0] 26))
  replace S := Lib.hid (S.out.al (.cells #[.int .i64 1, .int .i64 (a * b), .string ⟨#[]⟩, .slice none 0 0] 26))
  replace D := Lib.hid (D.out.al (.cells #[.int .i64 1, .int .i64 (a * b), .string ⟨#[]⟩, .slice none 0 0] 26))
  have P := Lib.hid (NBlk.new w8 1 (a * b) ⟨#[]⟩)
  replace K := Lib.hid (kept_al K.out (.cells #[.int .i64 1, .int .i64 (a * b), .string ⟨#[]⟩, .slice none 0 0] 26))
  generalize w8.alloc (.cells #[.int .i64 1, .int .i64 (a * b), .string ⟨#[]⟩, .slice none 0 0] 26) = w9 at *
  generalize w8.heap.size = gp at *
  (with_reducible refine (T4.out _).mono ?_)
  rintro e w10 ⟨rfl, hb⟩
  replace X := Lib.hid (X.out.below hb)
  replace Y := Lib.hid (Y.out.below hb)
  replace S := Lib.hid (S.out.below hb)
  replace D := Lib.hid (D.out.below hb)
  replace P := Lib.hid (P.out.below hb)
  replace K := Lib.hid (kept_tr K.out hb)
  clear hb
  obtain ⟨cX0, cX1, cX2, cX3, cXl⟩ := X.out.cells
  obtain ⟨cY0, cY1, cY2, cY3, cYl⟩ := Y.out.cells
  go_wp2_with fail
  clear cX0 cX1 cX2 cX3 cXl cY0 cY1 cY2 cY3 cYl
  replace X := Lib.hid (X.out.al (.cells #[.int .i64 0, .int .i64 0, .string ⟨#[]⟩, .slice none 0 0] 26))
  replace Y := Lib.hid (Y.out.al (.cells #[.int .i64 0, .int .i64 0, .string ⟨#[]⟩, .slice none 0 0] 26))
  replace S := Lib.hid (S.out.al (.cells #[.int .i64 0, .int .i64 0, .string ⟨#[]⟩, .slice none 0 0] 26))
  replace D := Lib.hid (D.out.al (.cells #[.int .i64 0, .int .i64 0, .string ⟨#[]⟩, .slice none 0 0] 26))
  replace P := Lib.hid (P.out.al (.cells #[.int .i64 0, .int .i64 0, .string ⟨#[]⟩, .slice none 0 0] 26))
  have Q := Lib.hid (NBlk.new w10 0 0 ⟨#[]⟩)
  replace K := Lib.hid (kept_al K.out (.cells #[.int .i64 0, .int .i64 0, .string ⟨#[]⟩, .slice none 0 0] 26))
  generalize w10.alloc (.cells #[.int .i64 0, .int .i64 0, .string ⟨#[]⟩, .slice none 0 0] 26) = w11 at *
  generalize w10.heap.size = gq at *
  (with_reducible refine (T5.out _).mono ?_)
  rintro e w12 ⟨rfl, hb⟩
  replace X := Lib.hid (X.out.below hb)
  replace Y := Lib.hid (Y.out.below hb)
  replace S := Lib.hid (S.out.below hb)
  replace D := Lib.hid (D.out.below hb)
  replace P := Lib.hid (P.out.below hb)
  replace Q := Lib.hid (Q.out.below hb)
  replace K := Lib.hid (kept_tr K.out hb)
  clear hb
  obtain ⟨cX0, cX1, cX2, cX3, cXl⟩ := X.out.cells
  obtain ⟨cY0, cY1, cY2, cY3, cYl⟩ := Y.out.cells
  obtain ⟨cS0, cS1, cS2, cS3, cSl⟩ := S.out.cells
  obtain ⟨cD0, cD1, cD2, cD3, cDl⟩ := D.out.cells
  obtain ⟨cP0, cP1, cP2, cP3, cPl⟩ := P.out.cells
  obtain ⟨cQ0, cQ1, cQ2, cQ3, cQl⟩ := Q.out.cells
  go_upto_region 7 with fail
  clear cX0 cX1 cX2 cX3 cXl cY0 cY1 cY2 cY3 cYl cS0 cS1 cS2 cS3 cSl cD0 cD1 cD2 cD3 cDl cP0 cP1 cP2 cP3 cPl cQ0 cQ1 cQ2 cQ3 cQl
  replace X := Lib.hid (X.out.al (.cells #[.int .i64 0, .int .i64 0, .string ⟨#[]⟩, .slice none 0 0] 26))
  replace Y := Lib.hid (Y.out.al (.cells #[.int .i64 0, .int .i64 0, .string ⟨#[]⟩, .slice none 0 0] 26))
  replace S := Lib.hid (S.out.al (.cells #[.int .i64 0, .int .i64 0, .string ⟨#[]⟩, .slice none 0 0] 26))
  replace D := Lib.hid (D.out.al (.cells #[.int .i64 0, .int .i64 0, .string ⟨#[]⟩, .slice none 0 0] 26))
  replace P := Lib.hid (P.out.al (.cells #[.int .i64 0, .int .i64 0, .string ⟨#[]⟩, .slice none 0 0] 26))
  replace Q := Lib.hid (Q.out.al (.cells #[.int .i64 0, .int .i64 0, .string ⟨#[]⟩, .slice none 0 0] 26))
  have M := Lib.hid (NBlk.new w12 0 0 ⟨#[]⟩)
  replace K := Lib.hid (kept_al K.out (.cells #[.int .i64 0, .int .i64 0, .string ⟨#[]⟩, .slice none 0 0] 26))
  generalize w12.alloc (.cells #[.int .i64 0, .int .i64 0, .string ⟨#[]⟩, .slice none 0 0] 26) = w13 at *
  generalize w12.heap.size = gm at *
  obtain ⟨cX0, cX1, cX2, cX3, cXl⟩ := X.out.cells
  obtain ⟨cY0, cY1, cY2, cY3, cYl⟩ := Y.out.cells
  obtain ⟨cS0, cS1, cS2, cS3, cSl⟩ := S.out.cells
  obtain ⟨cD0, cD1, cD2, cD3, cDl⟩ := D.out.cells
  obtain ⟨cP0, cP1, cP2, cP3, cPl⟩ := P.out.cells
  obtain ⟨cQ0, cQ1, cQ2, cQ3, cQl⟩ := Q.out.cells
  obtain ⟨cM0, cM1, cM2, cM3, cMl⟩ := M.out.cells
  go_wp2_with fail
  go_quiet ((go_at_call 18; exact (lnum _ _).mono fun e w' h => ⟨h.1, _, h.2.symm⟩))
  clear cX0 cX1 cX2 cX3 cXl cY0 cY1 cY2 cY3 cYl cS0 cS1 cS2 cS3 cSl cD0 cD1 cD2 cD3 cDl cP0 cP1 cP2 cP3 cPl cQ0 cQ1 cQ2 cQ3 cQl cM0 cM1 cM2 cM3 cMl
  clear X Y S D P Q M
  replace K := Lib.hid (show Kept w (w13.drewN nq) from below_drewN K.out nq)
  generalize w13.drewN nq = v0 at *
  go_wp2_with fail
  (with_reducible refine (lval _ _).mono ?_)
  rintro e v1 ⟨rfl, hb⟩
  replace K := Lib.hid (kept_tr K.out hb)
  clear hb
  go_wp2_with fail
  (with_reducible refine (lval _ _).mono ?_)
  rintro e v2 ⟨rfl, hb⟩
  replace K := Lib.hid (kept_tr K.out hb)
  clear hb
  go_wp2_with fail
  (with_reducible refine (lval _ _).mono ?_)
  rintro e v3 ⟨rfl, hb⟩
  replace K := Lib.hid (kept_tr K.out hb)
  clear hb
  go_wp2_with fail
  have A := Lib.hid (((NBlk.new v3 1 (1 + f) ⟨#[]⟩).al (.cells #[.int .i64 1, .int .i64 (-9223372036854775808), .string ⟨#[]⟩, .slice none 0 0] 26)).al (.cells #[.int .i64 1, .int .i64 9223372036854775807, .string ⟨#[]⟩, .slice none 0 0] 26))
  have B := Lib.hid ((NBlk.new (v3.alloc (.cells #[.int .i64 1, .int .i64 (1 + f), .string ⟨#[]⟩, .slice none 0 0] 26)) 1 (-9223372036854775808) ⟨#[]⟩).al (.cells #[.int .i64 1, .int .i64 9223372036854775807, .string ⟨#[]⟩, .slice none 0 0] 26))
  have C := Lib.hid (NBlk.new ((v3.alloc (.cells #[.int .i64 1, .int .i64 (1 + f), .string ⟨#[]⟩, .slice none 0 0] 26)).alloc (.cells #[.int .i64 1, .int .i64 (-9223372036854775808), .string ⟨#[]⟩, .slice none 0 0] 26)) 1 9223372036854775807 ⟨#[]⟩)
  rw [show (v3.alloc (.cells #[.int .i64 1, .int .i64 (1 + f), .string ⟨#[]⟩, .slice none 0 0] 26)).heap.size = v3.heap.size + 1 by simp] at B
  rw [show ((v3.alloc (.cells #[.int .i64 1, .int .i64 (1 + f), .string ⟨#[]⟩, .slice none 0 0] 26)).alloc (.cells #[.int .i64 1, .int .i64 (-9223372036854775808), .string ⟨#[]⟩, .slice none 0 0] 26)).heap.size = v3.heap.size + 1 + 1 by simp] at C
  replace K := Lib.hid (kept_al (kept_al (kept_al K.out (.cells #[.int .i64 1, .int .i64 (1 + f), .string ⟨#[]⟩, .slice none 0 0] 26)) (.cells #[.int .i64 1, .int .i64 (-9223372036854775808), .string ⟨#[]⟩, .slice none 0 0] 26)) (.cells #[.int .i64 1, .int .i64 9223372036854775807, .string ⟨#[]⟩, .slice none 0 0] 26))
  generalize ((v3.alloc (.cells #[.int .i64 1, .int .i64 (1 + f), .string ⟨#[]⟩, .slice none 0 0] 26)).alloc (.cells #[.int .i64 1, .int .i64 (-9223372036854775808), .string ⟨#[]⟩, .slice none 0 0] 26)).alloc (.cells #[.int .i64 1, .int .i64 9223372036854775807, .string ⟨#[]⟩, .slice none 0 0] 26) = v4 at *
  generalize v3.heap.size + 1 + 1 = gc at *
  generalize v3.heap.size + 1 = gb at *
  generalize v3.heap.size = ga at *
  (with_reducible refine (U1.out _).mono ?_)
  rintro e v5 ⟨rfl, hb⟩
  replace A := Lib.hid (A.out.below hb)
  replace B := Lib.hid (B.out.below hb)
  replace C := Lib.hid (C.out.below hb)
  replace K := Lib.hid (kept_tr K.out hb)
  clear hb
  obtain ⟨cA0, cA1, cA2, cA3, cAl⟩ := A.out.cells
  obtain ⟨cB0, cB1, cB2, cB3, cBl⟩ := B.out.cells
  obtain ⟨cC0, cC1, cC2, cC3, cCl⟩ := C.out.cells
  go_wp2_with fail
  clear cA0 cA1 cA2 cA3 cAl cB0 cB1 cB2 cB3 cBl cC0 cC1 cC2 cC3 cCl
  replace A := Lib.hid (A.out.al (.cells #[.int .i64 0, .int .i64 0, .string ⟨#[]⟩, .slice none 0 0] 26))
  replace B := Lib.hid (B.out.al (.cells #[.int .i64 0, .int .i64 0, .string ⟨#[]⟩, .slice none 0 0] 26))
  replace C := Lib.hid (C.out.al (.cells #[.int .i64 0, .int .i64 0, .string ⟨#[]⟩, .slice none 0 0] 26))
  replace K := Lib.hid (kept_al K.out (.cells #[.int .i64 0, .int .i64 0, .string ⟨#[]⟩, .slice none 0 0] 26))
  generalize v5.alloc (.cells #[.int .i64 0, .int .i64 0, .string ⟨#[]⟩, .slice none 0 0] 26) = v6 at *
  (with_reducible refine (U2.out _).mono ?_)
  rintro e v7 ⟨rfl, hb⟩
  replace A := Lib.hid (A.out.below hb)
  replace B := Lib.hid (B.out.below hb)
  replace C := Lib.hid (C.out.below hb)
  replace K := Lib.hid (kept_tr K.out hb)
  clear hb
  obtain ⟨cA0, cA1, cA2, cA3, cAl⟩ := A.out.cells
  obtain ⟨cB0, cB1, cB2, cB3, cBl⟩ := B.out.cells
  obtain ⟨cC0, cC1, cC2, cC3, cCl⟩ := C.out.cells
  go_upto_region 14 with fail
  clear cA0 cA1 cA2 cA3 cAl cB0 cB1 cB2 cB3 cBl cC0 cC1 cC2 cC3 cCl
  replace A := Lib.hid (A.out.al (.cells #[.int .i64 0, .int .i64 0, .string ⟨#[]⟩, .slice none 0 0] 26))
  replace B := Lib.hid (B.out.al (.cells #[.int .i64 0, .int .i64 0, .string ⟨#[]⟩, .slice none 0 0] 26))
  replace C := Lib.hid (C.out.al (.cells #[.int .i64 0, .int .i64 0, .string ⟨#[]⟩, .slice none 0 0] 26))
  replace K := Lib.hid (kept_al K.out (.cells #[.int .i64 0, .int .i64 0, .string ⟨#[]⟩, .slice none 0 0] 26))
  generalize v7.alloc (.cells #[.int .i64 0, .int .i64 0, .string ⟨#[]⟩, .slice none 0 0] 26) = v8 at *
  go_cut [27] (fun s wx => s = .int .i64 8 ∧ Below v8.heap.size v8 wx)
  case first =>
    refine reg14 hf1 hf2 C U3 ?_
    intro y0 y1 y2 y3 y4 y5 y6 y7 y8 y9 wx hwx
    dsimp only
    go_wp2
    go_meet
    case rel => exact ⟨rfl, hwx⟩
  case rest =>
    obtain ⟨rfl, hb⟩ := hcut
    replace A := Lib.hid (A.out.below hb)
    replace B := Lib.hid (B.out.below hb)
    replace C := Lib.hid (C.out.below hb)
    replace K := Lib.hid (kept_tr K.out hb)
    clear hb
    generalize wc = v9 at *
    obtain ⟨cB0, cB1, cB2, cB3, cBl⟩ := B.out.cells
    go_wp2_with fail
    clear cB0 cB1 cB2 cB3 cBl
    (with_reducible refine (U4.out _).mono ?_)
    rintro e va ⟨rfl, hb⟩
    replace A := Lib.hid (A.out.below hb)
    replace B := Lib.hid (B.out.below hb)
    replace C := Lib.hid (C.out.below hb)
    replace K := Lib.hid (kept_tr K.out hb)
    clear hb
    obtain ⟨cB0, cB1, cB2, cB3, cBl⟩ := B.out.cells
    go_upto_region 16 with fail
    clear cB0 cB1 cB2 cB3 cBl
    replace A := Lib.hid (A.out.al (.cells #[.int .i64 0, .int .i64 0, .string ⟨#[]⟩, .slice none 0 0] 26))
    replace B := Lib.hid (B.out.al (.cells #[.int .i64 0, .int .i64 0, .string ⟨#[]⟩, .slice none 0 0] 26))
    replace C := Lib.hid (C.out.al (.cells #[.int .i64 0, .int .i64 0, .string ⟨#[]⟩, .slice none 0 0] 26))
    replace K := Lib.hid (kept_al K.out (.cells #[.int .i64 0, .int .i64 0, .string ⟨#[]⟩, .slice none 0 0] 26))
    generalize va.alloc (.cells #[.int .i64 0, .int .i64 0, .string ⟨#[]⟩, .slice none 0 0] 26) = vb at *
    go_cut [31] (fun s wx => s = .int .i64 8 ∧ Below vb.heap.size vb wx)
    case first =>
      refine reg16 B U5 ?_
      intro y0 y1 y2 y3 y4 y5 y6 wx hwx
      dsimp only
      go_wp2
      go_meet
      case rel => exact ⟨rfl, hwx⟩
    case rest =>
      obtain ⟨rfl, hb⟩ := hcut
      replace A := Lib.hid (A.out.below hb)
      replace B := Lib.hid (B.out.below hb)
      replace C := Lib.hid (C.out.below hb)
      replace K := Lib.hid (kept_tr K.out hb)
      clear hb
      generalize wc = vc at *
      go_upto_region 17 with fail
      go_cut [33] (fun s wx => s = .int .i64 8 ∧ Below vc.heap.size vc wx)
      case first =>
        refine reg17 B U6 ?_
        intro y0 y1 y2 y3 y4 y5 y6 wx hwx
        dsimp only
        go_wp2
        go_meet
        case rel => exact ⟨rfl, hwx⟩
      case rest =>
        obtain ⟨rfl, hb⟩ := hcut
        replace K := Lib.hid (kept_tr K.out hb)
        clear hb
        generalize wc = vd at *
        go_wp2_with fail
        (with_reducible refine (lnum _ _).mono ?_)
        rintro e w' ⟨rfl, rfl⟩
        go_wp2_with fail
        (with_reducible refine (lnum _ _).mono ?_)
        rintro e w' ⟨rfl, rfl⟩
        go_wp2_with fail
        (with_reducible refine (lnum _ _).mono ?_)
        rintro e w' ⟨rfl, rfl⟩
        go_wp2_with fail
        (with_reducible refine (lnum _ _).mono ?_)
        rintro e w' ⟨rfl, rfl⟩
        go_wp2_with fail
        (with_reducible refine (lnum _ _).mono ?_)
        rintro e w' ⟨rfl, rfl⟩
        go_wp2_with fail
        (with_reducible refine (lnum _ _).mono ?_)
        rintro e w' ⟨rfl, rfl⟩
        go_wp2_with fail
        (with_reducible refine (law_awake _).mono ?_)
        rintro e w' ⟨rfl, hb⟩
        replace K := Lib.hid (kept_tr K.out hb)
        clear hb
        go_wp2_with fail
        go_ret
        exact ⟨rfl, K.out⟩
set_option maxHeartbeats 8000000 in
set_option maxRecDepth 100000 in
theorem law_sums1 (w : World) (a b f : Int) (hz : ¬ b = 0) (ha : -2147483648 ≤ a ∧ a ≤ 2147483647) (hb : -2147483648 ≤ b ∧ b ≤ 2147483647) (hf : 0 ≤ f ∧ f ≤ 255) :
    Calls Try.prog 4 #[.int .i32 a, .int .i32 b, .int .u8 f] w (Made (.bool true) w) := by
  have hm := mul_i32 ha hb
  have ia : I64 a := by unfold I64; omega
  have ib : I64 b := by unfold I64; omega
  have T1 := Lib.hid (fun W => two_ok W 19 a b (a + b) (by omega) ia ib (fit_in (by omega)))
  have T2 := Lib.hid (fun W => two_ok W 20 a b (a - b) (by omega) ia ib (fit_in (by omega)))
  have T3 := Lib.hid (fun W => two_ok W 21 a b (a * b) (by omega) ia ib (fit_in (by omega)))
  have i1 : I64 (1 + f) := by unfold I64; omega
  have i2 : I64 (2 + f) := by unfold I64; omega
  have im : I64 (-1) := by unfold I64; omega
  have ig : I64 9223372036854775807 := by unfold I64; omega
  have il : I64 (-9223372036854775808) := by unfold I64; omega
  have U1 := Lib.hid (fun W => two_bad W 19 9223372036854775807 (1 + f) 8 (by omega) ig i1 (fit_out (by omega)) (by omega))
  have U2 := Lib.hid (fun W => two_bad W 20 (-9223372036854775808) (1 + f) 8 (by omega) il i1 (fit_out (by omega)) (by omega))
  have U3 := Lib.hid (fun W => two_bad W 21 9223372036854775807 (2 + f) 8 (by omega) ig i2 (fit_out (by omega)) (by omega))
  have U4 := Lib.hid (fun W => show Calls Try.prog 9 #[.int .i64 9, .agg #[.int .i64 1, .int .i64 (-9223372036854775808), .string ⟨#[]⟩, .slice none 0 0]] W (IsTold 0 0 ⟨#[]⟩ 8 W) from vone W 0 (vnum (-9223372036854775808)) nilV 9 (RowRd.nil W 0 none 0) il)
  have U5 := Lib.hid (fun W => two_bad W 22 (-9223372036854775808) (-1) 8 (by omega) il im rfl (by omega))
  have U6 := Lib.hid (fun W => two_bad W 21 (-1) (-9223372036854775808) 8 (by omega) im il rfl (by omega))
  clear i1 i2 im ig il
  obtain ⟨hm1, hm2⟩ := hm
  obtain ⟨ha1, ha2⟩ := ha
  obtain ⟨hb1, hb2⟩ := hb
  obtain ⟨hf1, hf2⟩ := hf
  have g0 : (b == 0) = false := by simpa using hz
  have g00 : (b != 0) = true := by simpa using hz
  have hq := quo_i32 (b := b) ⟨ha1, ha2⟩
  have T4 := Lib.hid (fun W => two_ok W 22 a b (a.tdiv b) (by omega) ia ib (show quoR a b = _ by unfold quoR; rw [if_neg hz]; exact fit_in (by omega)))
  have T5 := Lib.hid (fun W => two_ok W 23 a b (a.tmod b) (by omega) ia ib (show modR a b = _ by unfold modR; rw [if_neg hz]))
  have e4 : (a.tdiv b != wrap64 (a.tdiv b)) = false := by rw [wrap_in (by omega)]; simp
  have e5 : (a.tmod b != a.tmod b) = false := by simp
  clear hq
  clear ia ib
  go_enter Try.func4, Try.ntmps4
  go_wp2_with fail
  refine (lval _ a).mono ?_
  rintro e w1 ⟨rfl, hb⟩
  have K := Lib.hid (show Kept w w1 from hb)
  clear hb
  go_wp2_with fail
  refine (lval _ b).mono ?_
  rintro e w2 ⟨rfl, hb⟩
  replace K := Lib.hid (kept_tr K.out hb)
  clear hb
  go_wp2_with fail
  have X := Lib.hid ((NBlk.new w2 1 a ⟨#[]⟩).al (.cells #[.int .i64 1, .int .i64 b, .string ⟨#[]⟩, .slice none 0 0] 26))
  have Y := Lib.hid (NBlk.new (w2.alloc (.cells #[.int .i64 1, .int .i64 a, .string ⟨#[]⟩, .slice none 0 0] 26)) 1 b ⟨#[]⟩)
  rw [show (w2.alloc (.cells #[.int .i64 1, .int .i64 a, .string ⟨#[]⟩, .slice none 0 0] 26)).heap.size = w2.heap.size + 1 by simp] at Y
  replace K := Lib.hid (kept_al (kept_al K.out (.cells #[.int .i64 1, .int .i64 a, .string ⟨#[]⟩, .slice none 0 0] 26)) (.cells #[.int .i64 1, .int .i64 b, .string ⟨#[]⟩, .slice none 0 0] 26))
  generalize (w2.alloc (.cells #[.int .i64 1, .int .i64 a, .string ⟨#[]⟩, .slice none 0 0] 26)).alloc (.cells #[.int .i64 1, .int .i64 b, .string ⟨#[]⟩, .slice none 0 0] 26) = w3 at *
  generalize w2.heap.size + 1 = gy at *
  generalize w2.heap.size = gx at *
  (with_reducible refine (T1.out _).mono ?_)
  rintro e w4 ⟨rfl, hb⟩
  replace X := Lib.hid (X.out.below hb)
  replace Y := Lib.hid (Y.out.below hb)
  replace K := Lib.hid (kept_tr K.out hb)
  clear hb
  obtain ⟨cX0, cX1, cX2, cX3, cXl⟩ := X.out.cells
  obtain ⟨cY0, cY1, cY2, cY3, cYl⟩ := Y.out.cells
  go_wp2_with fail
  clear cX0 cX1 cX2 cX3 cXl cY0 cY1 cY2 cY3 cYl
  replace X := Lib.hid (X.out.al (.cells #[.int .i64 1, .int .i64 (a + b), .string ⟨#[]⟩, .slice none 0 0] 26))
  replace Y := Lib.hid (Y.out.al (.cells #[.int .i64 1, .int .i64 (a + b), .string ⟨#[]⟩, .slice none 0 0] 26))
  have S := Lib.hid (NBlk.new w4 1 (a + b) ⟨#[]⟩)
  replace K := Lib.hid (kept_al K.out (.cells #[.int .i64 1, .int .i64 (a + b), .string ⟨#[]⟩, .slice none 0 0] 26))
  generalize w4.alloc (.cells #[.int .i64 1, .int .i64 (a + b), .string ⟨#[]⟩, .slice none 0 0] 26) = w5 at *
  generalize w4.heap.size = gs at *
  (with_reducible refine (T2.out _).mono ?_)
  rintro e w6 ⟨rfl, hb⟩
  replace X := Lib.hid (X.out.below hb)
  replace Y := Lib.hid (Y.out.below hb)
  replace S := Lib.hid (S.out.below hb)
  replace K := Lib.hid (kept_tr K.out hb)
  clear hb
  obtain ⟨cX0, cX1, cX2, cX3, cXl⟩ := X.out.cells
  obtain ⟨cY0, cY1, cY2, cY3, cYl⟩ := Y.out.cells
  go_wp2_with fail
  clear cX0 cX1 cX2 cX3 cXl cY0 cY1 cY2 cY3 cYl
  replace X := Lib.hid (X.out.al (.cells #[.int .i64 1, .int .i64 (a - b), .string ⟨#[]⟩, .slice none 0 0] 26))
  replace Y := Lib.hid (Y.out.al (.cells #[.int .i64 1, .int .i64 (a - b), .string ⟨#[]⟩, .slice none 0 0] 26))
  replace S := Lib.hid (S.out.al (.cells #[.int .i64 1, .int .i64 (a - b), .string ⟨#[]⟩, .slice none 0 0] 26))
  have D := Lib.hid (NBlk.new w6 1 (a - b) ⟨#[]⟩)
  replace K := Lib.hid (kept_al K.out (.cells #[.int .i64 1, .int .i64 (a - b), .string ⟨#[]⟩, .slice none 0 0] 26))
  generalize w6.alloc (.cells #[.int .i64 1, .int .i64 (a - b), .string ⟨#[]⟩, .slice none 0 0] 26) = w7 at *
  generalize w6.heap.size = gd at *
  (with_reducible refine (T3.out _).mono ?_)
  rintro e w8 ⟨rfl, hb⟩
  replace X := Lib.hid (X.out.below hb)
  replace Y := Lib.hid (Y.out.below hb)
  replace S := Lib.hid (S.out.below hb)
  replace D := Lib.hid (D.out.below hb)
  replace K := Lib.hid (kept_tr K.out hb)
  clear hb
  obtain ⟨cX0, cX1, cX2, cX3, cXl⟩ := X.out.cells
  obtain ⟨cY0, cY1, cY2, cY3, cYl⟩ := Y.out.cells
  go_wp2_with fail
  clear cX0 cX1 cX2 cX3 cXl cY0 cY1 cY2 cY3 cYl
  replace X := Lib.hid (X.out.al (.cells #[.int .i64 1, .int .i64 (a * b), .string ⟨#[]⟩, .slice none 0 0] 26))
  replace Y := Lib.hid (Y.out.al (.cells #[.int .i64 1, .int .i64 (a * b), .string ⟨#[]⟩, .slice none 0 0] 26))
  replace S := Lib.hid (S.out.al (.cells #[.int .i64 1, .int .i64 (a * b), .string ⟨#[]⟩, .slice none 0 0] 26))
  replace D := Lib.hid (D.out.al (.cells #[.int .i64 1, .int .i64 (a * b), .string ⟨#[]⟩, .slice none 0 0] 26))
  have P := Lib.hid (NBlk.new w8 1 (a * b) ⟨#[]⟩)
  replace K := Lib.hid (kept_al K.out (.cells #[.int .i64 1, .int .i64 (a * b), .string ⟨#[]⟩, .slice none 0 0] 26))
  generalize w8.alloc (.cells #[.int .i64 1, .int .i64 (a * b), .string ⟨#[]⟩, .slice none 0 0] 26) = w9 at *
  generalize w8.heap.size = gp at *
  (with_reducible refine (T4.out _).mono ?_)
  rintro e w10 ⟨rfl, hb⟩
  replace X := Lib.hid (X.out.below hb)
  replace Y := Lib.hid (Y.out.below hb)
  replace S := Lib.hid (S.out.below hb)
  replace D := Lib.hid (D.out.below hb)
  replace P := Lib.hid (P.out.below hb)
  replace K := Lib.hid (kept_tr K.out hb)
  clear hb
  obtain ⟨cX0, cX1, cX2, cX3, cXl⟩ := X.out.cells
  obtain ⟨cY0, cY1, cY2, cY3, cYl⟩ := Y.out.cells
  go_wp2_with fail
  clear cX0 cX1 cX2 cX3 cXl cY0 cY1 cY2 cY3 cYl
  replace X := Lib.hid (X.out.al (.cells #[.int .i64 1, .int .i64 (a.tdiv b), .string ⟨#[]⟩, .slice none 0 0] 26))
  replace Y := Lib.hid (Y.out.al (.cells #[.int .i64 1, .int .i64 (a.tdiv b), .string ⟨#[]⟩, .slice none 0 0] 26))
  replace S := Lib.hid (S.out.al (.cells #[.int .i64 1, .int .i64 (a.tdiv b), .string ⟨#[]⟩, .slice none 0 0] 26))
  replace D := Lib.hid (D.out.al (.cells #[.int .i64 1, .int .i64 (a.tdiv b), .string ⟨#[]⟩, .slice none 0 0] 26))
  replace P := Lib.hid (P.out.al (.cells #[.int .i64 1, .int .i64 (a.tdiv b), .string ⟨#[]⟩, .slice none 0 0] 26))
  have Q := Lib.hid (NBlk.new w10 1 (a.tdiv b) ⟨#[]⟩)
  replace K := Lib.hid (kept_al K.out (.cells #[.int .i64 1, .int .i64 (a.tdiv b), .string ⟨#[]⟩, .slice none 0 0] 26))
  generalize w10.alloc (.cells #[.int .i64 1, .int .i64 (a.tdiv b), .string ⟨#[]⟩, .slice none 0 0] 26) = w11 at *
  generalize w10.heap.size = gq at *
  (with_reducible refine (T5.out _).mono ?_)
  rintro e w12 ⟨rfl, hb⟩
  replace X := Lib.hid (X.out.below hb)
  replace Y := Lib.hid (Y.out.below hb)
  replace S := Lib.hid (S.out.below hb)
  replace D := Lib.hid (D.out.below hb)
  replace P := Lib.hid (P.out.below hb)
  replace Q := Lib.hid (Q.out.below hb)
  replace K := Lib.hid (kept_tr K.out hb)
  clear hb
  obtain ⟨cX0, cX1, cX2, cX3, cXl⟩ := X.out.cells
  obtain ⟨cY0, cY1, cY2, cY3, cYl⟩ := Y.out.cells
  obtain ⟨cS0, cS1, cS2, cS3, cSl⟩ := S.out.cells
  obtain ⟨cD0, cD1, cD2, cD3, cDl⟩ := D.out.cells
  obtain ⟨cP0, cP1, cP2, cP3, cPl⟩ := P.out.cells
  obtain ⟨cQ0, cQ1, cQ2, cQ3, cQl⟩ := Q.out.cells
  go_upto_region 7 with fail
  clear cX0 cX1 cX2 cX3 cXl cY0 cY1 cY2 cY3 cYl cS0 cS1 cS2 cS3 cSl cD0 cD1 cD2 cD3 cDl cP0 cP1 cP2 cP3 cPl cQ0 cQ1 cQ2 cQ3 cQl
  replace X := Lib.hid (X.out.al (.cells #[.int .i64 1, .int .i64 (a.tmod b), .string ⟨#[]⟩, .slice none 0 0] 26))
  replace Y := Lib.hid (Y.out.al (.cells #[.int .i64 1, .int .i64 (a.tmod b), .string ⟨#[]⟩, .slice none 0 0] 26))
  replace S := Lib.hid (S.out.al (.cells #[.int .i64 1, .int .i64 (a.tmod b), .string ⟨#[]⟩, .slice none 0 0] 26))
  replace D := Lib.hid (D.out.al (.cells #[.int .i64 1, .int .i64 (a.tmod b), .string ⟨#[]⟩, .slice none 0 0] 26))
  replace P := Lib.hid (P.out.al (.cells #[.int .i64 1, .int .i64 (a.tmod b), .string ⟨#[]⟩, .slice none 0 0] 26))
  replace Q := Lib.hid (Q.out.al (.cells #[.int .i64 1, .int .i64 (a.tmod b), .string ⟨#[]⟩, .slice none 0 0] 26))
  have M := Lib.hid (NBlk.new w12 1 (a.tmod b) ⟨#[]⟩)
  replace K := Lib.hid (kept_al K.out (.cells #[.int .i64 1, .int .i64 (a.tmod b), .string ⟨#[]⟩, .slice none 0 0] 26))
  generalize w12.alloc (.cells #[.int .i64 1, .int .i64 (a.tmod b), .string ⟨#[]⟩, .slice none 0 0] 26) = w13 at *
  generalize w12.heap.size = gm at *
  obtain ⟨cX0, cX1, cX2, cX3, cXl⟩ := X.out.cells
  obtain ⟨cY0, cY1, cY2, cY3, cYl⟩ := Y.out.cells
  obtain ⟨cS0, cS1, cS2, cS3, cSl⟩ := S.out.cells
  obtain ⟨cD0, cD1, cD2, cD3, cDl⟩ := D.out.cells
  obtain ⟨cP0, cP1, cP2, cP3, cPl⟩ := P.out.cells
  obtain ⟨cQ0, cQ1, cQ2, cQ3, cQl⟩ := Q.out.cells
  obtain ⟨cM0, cM1, cM2, cM3, cMl⟩ := M.out.cells
  go_wp2_with fail
  go_quiet ((go_at_call 18; exact (lnum _ _).mono fun e w' h => ⟨h.1, _, h.2.symm⟩))
  clear cX0 cX1 cX2 cX3 cXl cY0 cY1 cY2 cY3 cYl cS0 cS1 cS2 cS3 cSl cD0 cD1 cD2 cD3 cDl cP0 cP1 cP2 cP3 cPl cQ0 cQ1 cQ2 cQ3 cQl cM0 cM1 cM2 cM3 cMl
  clear X Y S D P Q M
  replace K := Lib.hid (show Kept w (w13.drewN nq) from below_drewN K.out nq)
  generalize w13.drewN nq = v0 at *
  go_wp2_with fail
  (with_reducible refine (lval _ _).mono ?_)
  rintro e v1 ⟨rfl, hb⟩
  replace K := Lib.hid (kept_tr K.out hb)
  clear hb
  go_wp2_with fail
  (with_reducible refine (lval _ _).mono ?_)
  rintro e v2 ⟨rfl, hb⟩
  replace K := Lib.hid (kept_tr K.out hb)
  clear hb
  go_wp2_with fail
  (with_reducible refine (lval _ _).mono ?_)
  rintro e v3 ⟨rfl, hb⟩
  replace K := Lib.hid (kept_tr K.out hb)
  clear hb
  go_wp2_with fail
  have A := Lib.hid (((NBlk.new v3 1 (1 + f) ⟨#[]⟩).al (.cells #[.int .i64 1, .int .i64 (-9223372036854775808), .string ⟨#[]⟩, .slice none 0 0] 26)).al (.cells #[.int .i64 1, .int .i64 9223372036854775807, .string ⟨#[]⟩, .slice none 0 0] 26))
  have B := Lib.hid ((NBlk.new (v3.alloc (.cells #[.int .i64 1, .int .i64 (1 + f), .string ⟨#[]⟩, .slice none 0 0] 26)) 1 (-9223372036854775808) ⟨#[]⟩).al (.cells #[.int .i64 1, .int .i64 9223372036854775807, .string ⟨#[]⟩, .slice none 0 0] 26))
  have C := Lib.hid (NBlk.new ((v3.alloc (.cells #[.int .i64 1, .int .i64 (1 + f), .string ⟨#[]⟩, .slice none 0 0] 26)).alloc (.cells #[.int .i64 1, .int .i64 (-9223372036854775808), .string ⟨#[]⟩, .slice none 0 0] 26)) 1 9223372036854775807 ⟨#[]⟩)
  rw [show (v3.alloc (.cells #[.int .i64 1, .int .i64 (1 + f), .string ⟨#[]⟩, .slice none 0 0] 26)).heap.size = v3.heap.size + 1 by simp] at B
  rw [show ((v3.alloc (.cells #[.int .i64 1, .int .i64 (1 + f), .string ⟨#[]⟩, .slice none 0 0] 26)).alloc (.cells #[.int .i64 1, .int .i64 (-9223372036854775808), .string ⟨#[]⟩, .slice none 0 0] 26)).heap.size = v3.heap.size + 1 + 1 by simp] at C
  replace K := Lib.hid (kept_al (kept_al (kept_al K.out (.cells #[.int .i64 1, .int .i64 (1 + f), .string ⟨#[]⟩, .slice none 0 0] 26)) (.cells #[.int .i64 1, .int .i64 (-9223372036854775808), .string ⟨#[]⟩, .slice none 0 0] 26)) (.cells #[.int .i64 1, .int .i64 9223372036854775807, .string ⟨#[]⟩, .slice none 0 0] 26))
  generalize ((v3.alloc (.cells #[.int .i64 1, .int .i64 (1 + f), .string ⟨#[]⟩, .slice none 0 0] 26)).alloc (.cells #[.int .i64 1, .int .i64 (-9223372036854775808), .string ⟨#[]⟩, .slice none 0 0] 26)).alloc (.cells #[.int .i64 1, .int .i64 9223372036854775807, .string ⟨#[]⟩, .slice none 0 0] 26) = v4 at *
  generalize v3.heap.size + 1 + 1 = gc at *
  generalize v3.heap.size + 1 = gb at *
  generalize v3.heap.size = ga at *
  (with_reducible refine (U1.out _).mono ?_)
  rintro e v5 ⟨rfl, hb⟩
  replace A := Lib.hid (A.out.below hb)
  replace B := Lib.hid (B.out.below hb)
  replace C := Lib.hid (C.out.below hb)
  replace K := Lib.hid (kept_tr K.out hb)
  clear hb
  obtain ⟨cA0, cA1, cA2, cA3, cAl⟩ := A.out.cells
  obtain ⟨cB0, cB1, cB2, cB3, cBl⟩ := B.out.cells
  obtain ⟨cC0, cC1, cC2, cC3, cCl⟩ := C.out.cells
  go_wp2_with fail
  clear cA0 cA1 cA2 cA3 cAl cB0 cB1 cB2 cB3 cBl cC0 cC1 cC2 cC3 cCl
  replace A := Lib.hid (A.out.al (.cells #[.int .i64 0, .int .i64 0, .string ⟨#[]⟩, .slice none 0 0] 26))
  replace B := Lib.hid (B.out.al (.cells #[.int .i64 0, .int .i64 0, .string ⟨#[]⟩, .slice none 0 0] 26))
  replace C := Lib.hid (C.out.al (.cells #[.int .i64 0, .int .i64 0, .string ⟨#[]⟩, .slice none 0 0] 26))
  replace K := Lib.hid (kept_al K.out (.cells #[.int .i64 0, .int .i64 0, .string ⟨#[]⟩, .slice none 0 0] 26))
  generalize v5.alloc (.cells #[.int .i64 0, .int .i64 0, .string ⟨#[]⟩, .slice none 0 0] 26) = v6 at *
  (with_reducible refine (U2.out _).mono ?_)
  rintro e v7 ⟨rfl, hb⟩
  replace A := Lib.hid (A.out.below hb)
  replace B := Lib.hid (B.out.below hb)
  replace C := Lib.hid (C.out.below hb)
  replace K := Lib.hid (kept_tr K.out hb)
  clear hb
  obtain ⟨cA0, cA1, cA2, cA3, cAl⟩ := A.out.cells
  obtain ⟨cB0, cB1, cB2, cB3, cBl⟩ := B.out.cells
  obtain ⟨cC0, cC1, cC2, cC3, cCl⟩ := C.out.cells
  go_upto_region 14 with fail
  clear cA0 cA1 cA2 cA3 cAl cB0 cB1 cB2 cB3 cBl cC0 cC1 cC2 cC3 cCl
  replace A := Lib.hid (A.out.al (.cells #[.int .i64 0, .int .i64 0, .string ⟨#[]⟩, .slice none 0 0] 26))
  replace B := Lib.hid (B.out.al (.cells #[.int .i64 0, .int .i64 0, .string ⟨#[]⟩, .slice none 0 0] 26))
  replace C := Lib.hid (C.out.al (.cells #[.int .i64 0, .int .i64 0, .string ⟨#[]⟩, .slice none 0 0] 26))
  replace K := Lib.hid (kept_al K.out (.cells #[.int .i64 0, .int .i64 0, .string ⟨#[]⟩, .slice none 0 0] 26))
  generalize v7.alloc (.cells #[.int .i64 0, .int .i64 0, .string ⟨#[]⟩, .slice none 0 0] 26) = v8 at *
  go_cut [27] (fun s wx => s = .int .i64 8 ∧ Below v8.heap.size v8 wx)
  case first =>
    refine reg14 hf1 hf2 C U3 ?_
    intro y0 y1 y2 y3 y4 y5 y6 y7 y8 y9 wx hwx
    dsimp only
    go_wp2
    go_meet
    case rel => exact ⟨rfl, hwx⟩
  case rest =>
    obtain ⟨rfl, hb⟩ := hcut
    replace A := Lib.hid (A.out.below hb)
    replace B := Lib.hid (B.out.below hb)
    replace C := Lib.hid (C.out.below hb)
    replace K := Lib.hid (kept_tr K.out hb)
    clear hb
    generalize wc = v9 at *
    obtain ⟨cB0, cB1, cB2, cB3, cBl⟩ := B.out.cells
    go_wp2_with fail
    clear cB0 cB1 cB2 cB3 cBl
    (with_reducible refine (U4.out _).mono ?_)
    rintro e va ⟨rfl, hb⟩
    replace A := Lib.hid (A.out.below hb)
    replace B := Lib.hid (B.out.below hb)
    replace C := Lib.hid (C.out.below hb)
    replace K := Lib.hid (kept_tr K.out hb)
    clear hb
    obtain ⟨cB0, cB1, cB2, cB3, cBl⟩ := B.out.cells
    go_upto_region 16 with fail
    clear cB0 cB1 cB2 cB3 cBl
    replace A := Lib.hid (A.out.al (.cells #[.int .i64 0, .int .i64 0, .string ⟨#[]⟩, .slice none 0 0] 26))
    replace B := Lib.hid (B.out.al (.cells #[.int .i64 0, .int .i64 0, .string ⟨#[]⟩, .slice none 0 0] 26))
    replace C := Lib.hid (C.out.al (.cells #[.int .i64 0, .int .i64 0, .string ⟨#[]⟩, .slice none 0 0] 26))
    replace K := Lib.hid (kept_al K.out (.cells #[.int .i64 0, .int .i64 0, .string ⟨#[]⟩, .slice none 0 0] 26))
    generalize va.alloc (.cells #[.int .i64 0, .int .i64 0, .string ⟨#[]⟩, .slice none 0 0] 26) = vb at *
    go_cut [31] (fun s wx => s = .int .i64 8 ∧ Below vb.heap.size vb wx)
    case first =>
      refine reg16 B U5 ?_
      intro y0 y1 y2 y3 y4 y5 y6 wx hwx
      dsimp only
      go_wp2
      go_meet
      case rel => exact ⟨rfl, hwx⟩
    case rest =>
      obtain ⟨rfl, hb⟩ := hcut
      replace A := Lib.hid (A.out.below hb)
      replace B := Lib.hid (B.out.below hb)
      replace C := Lib.hid (C.out.below hb)
      replace K := Lib.hid (kept_tr K.out hb)
      clear hb
      generalize wc = vc at *
      go_upto_region 17 with fail
      go_cut [33] (fun s wx => s = .int .i64 8 ∧ Below vc.heap.size vc wx)
      case first =>
        refine reg17 B U6 ?_
        intro y0 y1 y2 y3 y4 y5 y6 wx hwx
        dsimp only
        go_wp2
        go_meet
        case rel => exact ⟨rfl, hwx⟩
      case rest =>
        obtain ⟨rfl, hb⟩ := hcut
        replace K := Lib.hid (kept_tr K.out hb)
        clear hb
        generalize wc = vd at *
        go_wp2_with fail
        (with_reducible refine (lnum _ _).mono ?_)
        rintro e w' ⟨rfl, rfl⟩
        go_wp2_with fail
        (with_reducible refine (lnum _ _).mono ?_)
        rintro e w' ⟨rfl, rfl⟩
        go_wp2_with fail
        (with_reducible refine (lnum _ _).mono ?_)
        rintro e w' ⟨rfl, rfl⟩
        go_wp2_with fail
        (with_reducible refine (lnum _ _).mono ?_)
        rintro e w' ⟨rfl, rfl⟩
        go_wp2_with fail
        (with_reducible refine (lnum _ _).mono ?_)
        rintro e w' ⟨rfl, rfl⟩
        go_wp2_with fail
        (with_reducible refine (lnum _ _).mono ?_)
        rintro e w' ⟨rfl, rfl⟩
        go_wp2_with fail
        (with_reducible refine (law_awake _).mono ?_)
        rintro e w' ⟨rfl, hb⟩
        replace K := Lib.hid (kept_tr K.out hb)
        clear hb
        go_wp2_with fail
        go_ret
        exact ⟨rfl, K.out⟩
theorem law_sums (w : World) (a b f : Int) (ha : -2147483648 ≤ a ∧ a ≤ 2147483647) (hb : -2147483648 ≤ b ∧ b ≤ 2147483647) (hf : 0 ≤ f ∧ f ≤ 255) :
    Calls Try.prog 4 #[.int .i32 a, .int .i32 b, .int .u8 f] w (Made (.bool true) w) := by
  by_cases hz : b = 0
  · exact law_sums0 w a b f hz ha hb hf
  · exact law_sums1 w a b f hz ha hb hf
end Go.Proofs.Ytfefkbmpkggocaa
