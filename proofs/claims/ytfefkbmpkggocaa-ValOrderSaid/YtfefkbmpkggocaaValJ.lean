/- The law of order, walked. -/
import Derived.Test.YtfefkbmpkggocaaValH
namespace Go.Proofs.Ytfefkbmpkggocaa
open Go.RowKit
set_option linter.unusedVariables false
set_option linter.unusedSimpArgs false

def bn (b : Bool) : Int := if b then 1 else 0
theorem bn_range (b : Bool) : 0 ≤ bn b ∧ bn b ≤ 1 := by cases b <;> decide
theorem bn_one (b : Bool) : (bn b == 1) = b := by cases b <;> rfl
section
variable (w : World)
theorem two_cmp (k a b : Int) (hk : 15 ≤ k ∧ k ≤ 18) (ha : I64 a) (hb : I64 b) :
    Calls Try.prog 10 #[.int .i64 k, .agg #[.int .i64 1, .int .i64 a, .string ⟨#[]⟩, .slice none 0 0], .agg #[.int .i64 1, .int .i64 b, .string ⟨#[]⟩, .slice none 0 0]] w (IsTold 3 (bn (holdsB k a b)) ⟨#[]⟩ 0 w) := by
  have h1 := vtwo w 0 k (vnum a) (vnum b) nilV nilV (RowRd.nil w 0 none 0) (RowRd.nil w 0 none 0) ha hb
  have e : twoR 0 k (vnum a) (vnum b) = (vbool (holdsB k a b), 0) := by
    unfold twoR
    rw [if_neg (by omega), if_neg (by omega), if_pos hk, if_pos ⟨rfl, rfl⟩]; rfl
  rw [e] at h1
  exact h1
theorem two_eq (k a b : Int) (hk : k = 13 ∨ k = 14) (ha : I64 a) (hb : I64 b) :
    Calls Try.prog 10 #[.int .i64 k, .agg #[.int .i64 1, .int .i64 a, .string ⟨#[]⟩, .slice none 0 0], .agg #[.int .i64 1, .int .i64 b, .string ⟨#[]⟩, .slice none 0 0]] w (IsTold 3 (bn ((a == b) == (k == 13))) ⟨#[]⟩ 0 w) := by
  have h1 := vtwo w 0 k (vnum a) (vnum b) nilV nilV (RowRd.nil w 0 none 0) (RowRd.nil w 0 none 0) ha hb
  have e0 : sameB 0 (vnum a) (vnum b) = (a == b) := by
    rw [same_zero]; unfold headB vnum
    simp [VL.kind, VL.num, VL.text, VL.kids]
  have e : twoR 0 k (vnum a) (vnum b) = (vbool ((a == b) == (k == 13)), 0) := by
    unfold twoR
    rw [if_neg (by omega), if_pos hk, if_pos (show (vnum a).kind = (vnum b).kind from rfl), e0]
  rw [e] at h1
  exact h1
theorem two_str (s t : ByteArray) :
    Calls Try.prog 10 #[.int .i64 13, .agg #[.int .i64 2, .int .i64 0, .string s, .slice none 0 0], .agg #[.int .i64 2, .int .i64 0, .string t, .slice none 0 0]] w (IsTold 3 (bn (s.toList == t.toList)) ⟨#[]⟩ 0 w) := by
  have h1 := vtwo w 0 13 (vstr s) (vstr t) nilV nilV (RowRd.nil w 0 none 0) (RowRd.nil w 0 none 0) (show I64 0 by unfold I64; omega) (show I64 0 by unfold I64; omega)
  have e0 : sameB 0 (vstr s) (vstr t) = (s.toList == t.toList) := by
    rw [same_zero]; unfold headB vstr
    simp [VL.kind, VL.num, VL.text, VL.kids]
  have e : twoR 0 13 (vstr s) (vstr t) = (vbool (s.toList == t.toList), 0) := by
    unfold twoR
    rw [if_neg (by omega), if_pos (by omega), if_pos (show (vstr s).kind = (vstr t).kind from rfl), e0]; simp
  rw [e] at h1
  exact h1
theorem two_strlt (s t : ByteArray) :
    Calls Try.prog 10 #[.int .i64 15, .agg #[.int .i64 2, .int .i64 0, .string s, .slice none 0 0], .agg #[.int .i64 2, .int .i64 0, .string t, .slice none 0 0]] w (IsTold 0 0 ⟨#[]⟩ 7 w) := by
  have h1 := vtwo w 0 15 (vstr s) (vstr t) nilV nilV (RowRd.nil w 0 none 0) (RowRd.nil w 0 none 0) (show I64 0 by unfold I64; omega) (show I64 0 by unfold I64; omega)
  have e : twoR 0 15 (vstr s) (vstr t) = (vz, 7) := by
    unfold twoR
    rw [if_neg (by omega), if_neg (by omega), if_pos (by omega), if_neg (by simp [vstr, VL.kind])]
  rw [e] at h1
  exact h1
theorem two_mix (a : Int) (t : ByteArray) (ha : I64 a) :
    Calls Try.prog 10 #[.int .i64 13, .agg #[.int .i64 1, .int .i64 a, .string ⟨#[]⟩, .slice none 0 0], .agg #[.int .i64 2, .int .i64 0, .string t, .slice none 0 0]] w (IsTold 0 0 ⟨#[]⟩ 7 w) := by
  have h1 := vtwo w 0 13 (vnum a) (vstr t) nilV nilV (RowRd.nil w 0 none 0) (RowRd.nil w 0 none 0) ha (show I64 0 by unfold I64; omega)
  have e : twoR 0 13 (vnum a) (vstr t) = (vz, 7) := by
    unfold twoR
    rw [if_neg (by omega), if_pos (by omega), if_neg (by simp [vnum, vstr, VL.kind])]
  rw [e] at h1
  exact h1
end
theorem tri (a b : Int) : (bn (holdsB 15 a b) + bn (holdsB 17 a b) + bn ((a == b) == ((13 : Int) == 13)) == 1) = true ∧ (bn (holdsB 16 a b) == 1 - bn (holdsB 17 a b)) = true ∧ (bn (holdsB 18 a b) == 1 - bn (holdsB 15 a b)) = true ∧ (bn ((a == b) == ((14 : Int) == 13)) == 1 - bn ((a == b) == ((13 : Int) == 13))) = true ∧ holdsB 15 a b = decide (a < b) := by
  have h15 : holdsB 15 a b = decide (a < b) := rfl
  have h16 : holdsB 16 a b = decide (a ≤ b) := rfl
  have h17 : holdsB 17 a b = decide (b < a) := rfl
  have h18 : holdsB 18 a b = decide (b ≤ a) := rfl
  rw [h15, h16, h17, h18]
  by_cases h1 : a < b
  · have h2 : ¬ b < a := by omega
    have h3 : a ≤ b := by omega
    have h4 : ¬ b ≤ a := by omega
    have h5 : (a == b) = false := by simp; omega
    simp [bn, h1, h2, h3, h4, h5]
  · by_cases h2 : b < a
    · have h3 : ¬ a ≤ b := by omega
      have h4 : b ≤ a := by omega
      have h5 : (a == b) = false := by simp; omega
      simp [bn, h1, h2, h3, h4, h5]
    · have h3 : a ≤ b := by omega
      have h4 : b ≤ a := by omega
      have h5 : (a == b) = true := by simp; omega
      simp [bn, h1, h2, h3, h4, h5]
set_option maxHeartbeats 8000000 in
set_option maxRecDepth 100000 in
theorem law_order (w : World) (a b : Int) (s t : ByteArray) (ia : I64 a) (ib : I64 b) (hs : s.size ≤ maxLen) (ht : t.size ≤ maxLen) :
    Calls Try.prog 5 #[.int .i64 a, .int .i64 b, .string s, .string t] w (Made (.bool true) w) := by
  unfold maxLen at hs ht
  by_cases h1 : 200 < s.size
  · go_enter Try.func5, Try.ntmps5
    go_wp2_with fail
    (with_reducible refine (law_awake _).mono ?_)
    rintro e w1 ⟨rfl, hb⟩
    go_wp2_with fail
    go_ret
    exact ⟨rfl, hb⟩
  by_cases h2 : 200 < t.size
  · go_enter Try.func5, Try.ntmps5
    go_wp2_with fail
    (with_reducible refine (law_awake _).mono ?_)
    rintro e w1 ⟨rfl, hb⟩
    go_wp2_with fail
    go_ret
    exact ⟨rfl, hb⟩
  have T1 := Lib.hid (fun W => two_cmp W 15 a b (by omega) ia ib)
  have T2 := Lib.hid (fun W => two_cmp W 17 a b (by omega) ia ib)
  have T3 := Lib.hid (fun W => two_eq W 13 a b (by omega) ia ib)
  have T4 := Lib.hid (fun W => two_cmp W 16 a b (by omega) ia ib)
  have T5 := Lib.hid (fun W => two_cmp W 18 a b (by omega) ia ib)
  have T6 := Lib.hid (fun W => two_eq W 14 a b (by omega) ia ib)
  have T7 := Lib.hid (fun W => two_str W s t)
  have T8 := Lib.hid (fun W => two_strlt W s t)
  have T9 := Lib.hid (fun W => two_mix W a t ia)
  obtain ⟨g1, g3, g4, g5, g2⟩ := tri a b
  have g2 : ((bn (holdsB 15 a b) == 1) == decide (a < b)) = true := by rw [bn_one, g2]; simp
  have g6 : ((bn (s.toList == t.toList) == 1) == (s.toList == t.toList)) = true := by rw [bn_one]; simp
  have q1 := bn_range (holdsB 15 a b)
  have q2 := bn_range (holdsB 17 a b)
  have q3 := bn_range ((a == b) == ((13 : Int) == 13))
  have q4 := bn_range (holdsB 16 a b)
  have q5 := bn_range (holdsB 18 a b)
  have q6 := bn_range ((a == b) == ((14 : Int) == 13))
  generalize bn (holdsB 15 a b) = lt at *
  generalize bn (holdsB 17 a b) = gt at *
  generalize bn ((a == b) == ((13 : Int) == 13)) = eq at *
  generalize bn (holdsB 16 a b) = le at *
  generalize bn (holdsB 18 a b) = ge at *
  generalize bn ((a == b) == ((14 : Int) == 13)) = ne at *
  generalize bn (s.toList == t.toList) = us at *
  obtain ⟨q10, q11⟩ := q1
  obtain ⟨q20, q21⟩ := q2
  obtain ⟨q30, q31⟩ := q3
  clear q4 q5 q6 ia ib
  have h1' : s.size ≤ 200 := by omega
  have h2' : t.size ≤ 200 := by omega
  clear h1 h2 hs ht
  go_enter Try.func5, Try.ntmps5
  go_wp2_with fail
  refine (lval _ a).mono ?_
  rintro e w1 ⟨rfl, hb⟩
  have K := Lib.hid (show Kept w w1 from hb)
  clear hb
  go_wp2_with fail
  refine (lval _ b).mono ?_
  rintro e w2 ⟨rfl, hb⟩
  replace K := Lib.hid (kept_tr K.out hb)
  clear hb
  go_wp2_with fail
  have X := Lib.hid ((NBlk.new w2 1 a ⟨#[]⟩).al (.cells #[.int .i64 1, .int .i64 b, .string ⟨#[]⟩, .slice none 0 0] 26))
  have Y := Lib.hid (NBlk.new (w2.alloc (.cells #[.int .i64 1, .int .i64 a, .string ⟨#[]⟩, .slice none 0 0] 26)) 1 b ⟨#[]⟩)
  rw [show (w2.alloc (.cells #[.int .i64 1, .int .i64 a, .string ⟨#[]⟩, .slice none 0 0] 26)).heap.size = w2.heap.size + 1 by simp] at Y
  replace K := Lib.hid (kept_al (kept_al K.out (.cells #[.int .i64 1, .int .i64 a, .string ⟨#[]⟩, .slice none 0 0] 26)) (.cells #[.int .i64 1, .int .i64 b, .string ⟨#[]⟩, .slice none 0 0] 26))
  generalize (w2.alloc (.cells #[.int .i64 1, .int .i64 a, .string ⟨#[]⟩, .slice none 0 0] 26)).alloc (.cells #[.int .i64 1, .int .i64 b, .string ⟨#[]⟩, .slice none 0 0] 26) = w3 at *
  generalize w2.heap.size + 1 = gy at *
  generalize w2.heap.size = gx at *
  (with_reducible refine (T1.out _).mono ?_)
  rintro e w4 ⟨rfl, hb⟩
  replace X := Lib.hid (X.out.below hb)
  replace Y := Lib.hid (Y.out.below hb)
  replace K := Lib.hid (kept_tr K.out hb)
  clear hb
  obtain ⟨cX0, cX1, cX2, cX3, cXl⟩ := X.out.cells
  obtain ⟨cY0, cY1, cY2, cY3, cYl⟩ := Y.out.cells
  go_wp2_with fail
  clear cX0 cX1 cX2 cX3 cXl cY0 cY1 cY2 cY3 cYl
  replace X := Lib.hid (X.out.al (.cells #[.int .i64 3, .int .i64 lt, .string ⟨#[]⟩, .slice none 0 0] 26))
  replace Y := Lib.hid (Y.out.al (.cells #[.int .i64 3, .int .i64 lt, .string ⟨#[]⟩, .slice none 0 0] 26))
  have LT := Lib.hid (NBlk.new w4 3 lt ⟨#[]⟩)
  replace K := Lib.hid (kept_al K.out (.cells #[.int .i64 3, .int .i64 lt, .string ⟨#[]⟩, .slice none 0 0] 26))
  generalize w4.alloc (.cells #[.int .i64 3, .int .i64 lt, .string ⟨#[]⟩, .slice none 0 0] 26) = w5 at *
  generalize w4.heap.size = glt at *
  (with_reducible refine (T2.out _).mono ?_)
  rintro e w6 ⟨rfl, hb⟩
  replace X := Lib.hid (X.out.below hb)
  replace Y := Lib.hid (Y.out.below hb)
  replace LT := Lib.hid (LT.out.below hb)
  replace K := Lib.hid (kept_tr K.out hb)
  clear hb
  obtain ⟨cX0, cX1, cX2, cX3, cXl⟩ := X.out.cells
  obtain ⟨cY0, cY1, cY2, cY3, cYl⟩ := Y.out.cells
  go_wp2_with fail
  clear cX0 cX1 cX2 cX3 cXl cY0 cY1 cY2 cY3 cYl
  replace X := Lib.hid (X.out.al (.cells #[.int .i64 3, .int .i64 gt, .string ⟨#[]⟩, .slice none 0 0] 26))
  replace Y := Lib.hid (Y.out.al (.cells #[.int .i64 3, .int .i64 gt, .string ⟨#[]⟩, .slice none 0 0] 26))
  replace LT := Lib.hid (LT.out.al (.cells #[.int .i64 3, .int .i64 gt, .string ⟨#[]⟩, .slice none 0 0] 26))
  have GT := Lib.hid (NBlk.new w6 3 gt ⟨#[]⟩)
  replace K := Lib.hid (kept_al K.out (.cells #[.int .i64 3, .int .i64 gt, .string ⟨#[]⟩, .slice none 0 0] 26))
  generalize w6.alloc (.cells #[.int .i64 3, .int .i64 gt, .string ⟨#[]⟩, .slice none 0 0] 26) = w7 at *
  generalize w6.heap.size = ggt at *
  (with_reducible refine (T3.out _).mono ?_)
  rintro e w8 ⟨rfl, hb⟩
  replace X := Lib.hid (X.out.below hb)
  replace Y := Lib.hid (Y.out.below hb)
  replace LT := Lib.hid (LT.out.below hb)
  replace GT := Lib.hid (GT.out.below hb)
  replace K := Lib.hid (kept_tr K.out hb)
  clear hb
  obtain ⟨cX0, cX1, cX2, cX3, cXl⟩ := X.out.cells
  obtain ⟨cY0, cY1, cY2, cY3, cYl⟩ := Y.out.cells
  go_wp2_with fail
  clear cX0 cX1 cX2 cX3 cXl cY0 cY1 cY2 cY3 cYl
  replace X := Lib.hid (X.out.al (.cells #[.int .i64 3, .int .i64 eq, .string ⟨#[]⟩, .slice none 0 0] 26))
  replace Y := Lib.hid (Y.out.al (.cells #[.int .i64 3, .int .i64 eq, .string ⟨#[]⟩, .slice none 0 0] 26))
  replace LT := Lib.hid (LT.out.al (.cells #[.int .i64 3, .int .i64 eq, .string ⟨#[]⟩, .slice none 0 0] 26))
  replace GT := Lib.hid (GT.out.al (.cells #[.int .i64 3, .int .i64 eq, .string ⟨#[]⟩, .slice none 0 0] 26))
  have EQ := Lib.hid (NBlk.new w8 3 eq ⟨#[]⟩)
  replace K := Lib.hid (kept_al K.out (.cells #[.int .i64 3, .int .i64 eq, .string ⟨#[]⟩, .slice none 0 0] 26))
  generalize w8.alloc (.cells #[.int .i64 3, .int .i64 eq, .string ⟨#[]⟩, .slice none 0 0] 26) = w9 at *
  generalize w8.heap.size = geq at *
  (with_reducible refine (T4.out _).mono ?_)
  rintro e w10 ⟨rfl, hb⟩
  replace X := Lib.hid (X.out.below hb)
  replace Y := Lib.hid (Y.out.below hb)
  replace LT := Lib.hid (LT.out.below hb)
  replace GT := Lib.hid (GT.out.below hb)
  replace EQ := Lib.hid (EQ.out.below hb)
  replace K := Lib.hid (kept_tr K.out hb)
  clear hb
  obtain ⟨cX0, cX1, cX2, cX3, cXl⟩ := X.out.cells
  obtain ⟨cY0, cY1, cY2, cY3, cYl⟩ := Y.out.cells
  go_wp2_with fail
  clear cX0 cX1 cX2 cX3 cXl cY0 cY1 cY2 cY3 cYl
  replace X := Lib.hid (X.out.al (.cells #[.int .i64 3, .int .i64 le, .string ⟨#[]⟩, .slice none 0 0] 26))
  replace Y := Lib.hid (Y.out.al (.cells #[.int .i64 3, .int .i64 le, .string ⟨#[]⟩, .slice none 0 0] 26))
  replace LT := Lib.hid (LT.out.al (.cells #[.int .i64 3, .int .i64 le, .string ⟨#[]⟩, .slice none 0 0] 26))
  replace GT := Lib.hid (GT.out.al (.cells #[.int .i64 3, .int .i64 le, .string ⟨#[]⟩, .slice none 0 0] 26))
  replace EQ := Lib.hid (EQ.out.al (.cells #[.int .i64 3, .int .i64 le, .string ⟨#[]⟩, .slice none 0 0] 26))
  have LE := Lib.hid (NBlk.new w10 3 le ⟨#[]⟩)
  replace K := Lib.hid (kept_al K.out (.cells #[.int .i64 3, .int .i64 le, .string ⟨#[]⟩, .slice none 0 0] 26))
  generalize w10.alloc (.cells #[.int .i64 3, .int .i64 le, .string ⟨#[]⟩, .slice none 0 0] 26) = w11 at *
  generalize w10.heap.size = gle at *
  (with_reducible refine (T5.out _).mono ?_)
  rintro e w12 ⟨rfl, hb⟩
  replace X := Lib.hid (X.out.below hb)
  replace Y := Lib.hid (Y.out.below hb)
  replace LT := Lib.hid (LT.out.below hb)
  replace GT := Lib.hid (GT.out.below hb)
  replace EQ := Lib.hid (EQ.out.below hb)
  replace LE := Lib.hid (LE.out.below hb)
  replace K := Lib.hid (kept_tr K.out hb)
  clear hb
  obtain ⟨cX0, cX1, cX2, cX3, cXl⟩ := X.out.cells
  obtain ⟨cY0, cY1, cY2, cY3, cYl⟩ := Y.out.cells
  go_wp2_with fail
  clear cX0 cX1 cX2 cX3 cXl cY0 cY1 cY2 cY3 cYl
  replace X := Lib.hid (X.out.al (.cells #[.int .i64 3, .int .i64 ge, .string ⟨#[]⟩, .slice none 0 0] 26))
  replace Y := Lib.hid (Y.out.al (.cells #[.int .i64 3, .int .i64 ge, .string ⟨#[]⟩, .slice none 0 0] 26))
  replace LT := Lib.hid (LT.out.al (.cells #[.int .i64 3, .int .i64 ge, .string ⟨#[]⟩, .slice none 0 0] 26))
  replace GT := Lib.hid (GT.out.al (.cells #[.int .i64 3, .int .i64 ge, .string ⟨#[]⟩, .slice none 0 0] 26))
  replace EQ := Lib.hid (EQ.out.al (.cells #[.int .i64 3, .int .i64 ge, .string ⟨#[]⟩, .slice none 0 0] 26))
  replace LE := Lib.hid (LE.out.al (.cells #[.int .i64 3, .int .i64 ge, .string ⟨#[]⟩, .slice none 0 0] 26))
  have GE := Lib.hid (NBlk.new w12 3 ge ⟨#[]⟩)
  replace K := Lib.hid (kept_al K.out (.cells #[.int .i64 3, .int .i64 ge, .string ⟨#[]⟩, .slice none 0 0] 26))
  generalize w12.alloc (.cells #[.int .i64 3, .int .i64 ge, .string ⟨#[]⟩, .slice none 0 0] 26) = w13 at *
  generalize w12.heap.size = gge at *
  (with_reducible refine (T6.out _).mono ?_)
  rintro e w14 ⟨rfl, hb⟩
  replace X := Lib.hid (X.out.below hb)
  replace Y := Lib.hid (Y.out.below hb)
  replace LT := Lib.hid (LT.out.below hb)
  replace GT := Lib.hid (GT.out.below hb)
  replace EQ := Lib.hid (EQ.out.below hb)
  replace LE := Lib.hid (LE.out.below hb)
  replace GE := Lib.hid (GE.out.below hb)
  replace K := Lib.hid (kept_tr K.out hb)
  clear hb
  obtain ⟨cX0, cX1, cX2, cX3, cXl⟩ := X.out.cells
  obtain ⟨cY0, cY1, cY2, cY3, cYl⟩ := Y.out.cells
  go_wp2_with fail
  clear cX0 cX1 cX2 cX3 cXl cY0 cY1 cY2 cY3 cYl
  replace X := Lib.hid (X.out.al (.cells #[.int .i64 3, .int .i64 ne, .string ⟨#[]⟩, .slice none 0 0] 26))
  replace Y := Lib.hid (Y.out.al (.cells #[.int .i64 3, .int .i64 ne, .string ⟨#[]⟩, .slice none 0 0] 26))
  replace LT := Lib.hid (LT.out.al (.cells #[.int .i64 3, .int .i64 ne, .string ⟨#[]⟩, .slice none 0 0] 26))
  replace GT := Lib.hid (GT.out.al (.cells #[.int .i64 3, .int .i64 ne, .string ⟨#[]⟩, .slice none 0 0] 26))
  replace EQ := Lib.hid (EQ.out.al (.cells #[.int .i64 3, .int .i64 ne, .string ⟨#[]⟩, .slice none 0 0] 26))
  replace LE := Lib.hid (LE.out.al (.cells #[.int .i64 3, .int .i64 ne, .string ⟨#[]⟩, .slice none 0 0] 26))
  replace GE := Lib.hid (GE.out.al (.cells #[.int .i64 3, .int .i64 ne, .string ⟨#[]⟩, .slice none 0 0] 26))
  have NE := Lib.hid (NBlk.new w14 3 ne ⟨#[]⟩)
  replace K := Lib.hid (kept_al K.out (.cells #[.int .i64 3, .int .i64 ne, .string ⟨#[]⟩, .slice none 0 0] 26))
  generalize w14.alloc (.cells #[.int .i64 3, .int .i64 ne, .string ⟨#[]⟩, .slice none 0 0] 26) = w15 at *
  generalize w14.heap.size = gne at *
  (with_reducible refine (T7.out _).mono ?_)
  rintro e w16 ⟨rfl, hb⟩
  replace X := Lib.hid (X.out.below hb)
  replace Y := Lib.hid (Y.out.below hb)
  replace LT := Lib.hid (LT.out.below hb)
  replace GT := Lib.hid (GT.out.below hb)
  replace EQ := Lib.hid (EQ.out.below hb)
  replace LE := Lib.hid (LE.out.below hb)
  replace GE := Lib.hid (GE.out.below hb)
  replace NE := Lib.hid (NE.out.below hb)
  replace K := Lib.hid (kept_tr K.out hb)
  clear hb
  obtain ⟨cX0, cX1, cX2, cX3, cXl⟩ := X.out.cells
  obtain ⟨cY0, cY1, cY2, cY3, cYl⟩ := Y.out.cells
  go_wp2_with fail
  clear cX0 cX1 cX2 cX3 cXl cY0 cY1 cY2 cY3 cYl
  replace X := Lib.hid (X.out.al (.cells #[.int .i64 3, .int .i64 us, .string ⟨#[]⟩, .slice none 0 0] 26))
  replace Y := Lib.hid (Y.out.al (.cells #[.int .i64 3, .int .i64 us, .string ⟨#[]⟩, .slice none 0 0] 26))
  replace LT := Lib.hid (LT.out.al (.cells #[.int .i64 3, .int .i64 us, .string ⟨#[]⟩, .slice none 0 0] 26))
  replace GT := Lib.hid (GT.out.al (.cells #[.int .i64 3, .int .i64 us, .string ⟨#[]⟩, .slice none 0 0] 26))
  replace EQ := Lib.hid (EQ.out.al (.cells #[.int .i64 3, .int .i64 us, .string ⟨#[]⟩, .slice none 0 0] 26))
  replace LE := Lib.hid (LE.out.al (.cells #[.int .i64 3, .int .i64 us, .string ⟨#[]⟩, .slice none 0 0] 26))
  replace GE := Lib.hid (GE.out.al (.cells #[.int .i64 3, .int .i64 us, .string ⟨#[]⟩, .slice none 0 0] 26))
  replace NE := Lib.hid (NE.out.al (.cells #[.int .i64 3, .int .i64 us, .string ⟨#[]⟩, .slice none 0 0] 26))
  have US := Lib.hid (NBlk.new w16 3 us ⟨#[]⟩)
  replace K := Lib.hid (kept_al K.out (.cells #[.int .i64 3, .int .i64 us, .string ⟨#[]⟩, .slice none 0 0] 26))
  generalize w16.alloc (.cells #[.int .i64 3, .int .i64 us, .string ⟨#[]⟩, .slice none 0 0] 26) = w17 at *
  generalize w16.heap.size = gus at *
  (with_reducible refine (T8.out _).mono ?_)
  rintro e w18 ⟨rfl, hb⟩
  replace X := Lib.hid (X.out.below hb)
  replace Y := Lib.hid (Y.out.below hb)
  replace LT := Lib.hid (LT.out.below hb)
  replace GT := Lib.hid (GT.out.below hb)
  replace EQ := Lib.hid (EQ.out.below hb)
  replace LE := Lib.hid (LE.out.below hb)
  replace GE := Lib.hid (GE.out.below hb)
  replace NE := Lib.hid (NE.out.below hb)
  replace US := Lib.hid (US.out.below hb)
  replace K := Lib.hid (kept_tr K.out hb)
  clear hb
  obtain ⟨cX0, cX1, cX2, cX3, cXl⟩ := X.out.cells
  obtain ⟨cY0, cY1, cY2, cY3, cYl⟩ := Y.out.cells
  go_wp2_with fail
  clear cX0 cX1 cX2 cX3 cXl cY0 cY1 cY2 cY3 cYl
  replace X := Lib.hid (X.out.al (.cells #[.int .i64 0, .int .i64 0, .string ⟨#[]⟩, .slice none 0 0] 26))
  replace Y := Lib.hid (Y.out.al (.cells #[.int .i64 0, .int .i64 0, .string ⟨#[]⟩, .slice none 0 0] 26))
  replace LT := Lib.hid (LT.out.al (.cells #[.int .i64 0, .int .i64 0, .string ⟨#[]⟩, .slice none 0 0] 26))
  replace GT := Lib.hid (GT.out.al (.cells #[.int .i64 0, .int .i64 0, .string ⟨#[]⟩, .slice none 0 0] 26))
  replace EQ := Lib.hid (EQ.out.al (.cells #[.int .i64 0, .int .i64 0, .string ⟨#[]⟩, .slice none 0 0] 26))
  replace LE := Lib.hid (LE.out.al (.cells #[.int .i64 0, .int .i64 0, .string ⟨#[]⟩, .slice none 0 0] 26))
  replace GE := Lib.hid (GE.out.al (.cells #[.int .i64 0, .int .i64 0, .string ⟨#[]⟩, .slice none 0 0] 26))
  replace NE := Lib.hid (NE.out.al (.cells #[.int .i64 0, .int .i64 0, .string ⟨#[]⟩, .slice none 0 0] 26))
  replace US := Lib.hid (US.out.al (.cells #[.int .i64 0, .int .i64 0, .string ⟨#[]⟩, .slice none 0 0] 26))
  have V8 := Lib.hid (NBlk.new w18 0 0 ⟨#[]⟩)
  replace K := Lib.hid (kept_al K.out (.cells #[.int .i64 0, .int .i64 0, .string ⟨#[]⟩, .slice none 0 0] 26))
  generalize w18.alloc (.cells #[.int .i64 0, .int .i64 0, .string ⟨#[]⟩, .slice none 0 0] 26) = w19 at *
  generalize w18.heap.size = gv8 at *
  (with_reducible refine (T9.out _).mono ?_)
  rintro e w20 ⟨rfl, hb⟩
  replace X := Lib.hid (X.out.below hb)
  replace Y := Lib.hid (Y.out.below hb)
  replace LT := Lib.hid (LT.out.below hb)
  replace GT := Lib.hid (GT.out.below hb)
  replace EQ := Lib.hid (EQ.out.below hb)
  replace LE := Lib.hid (LE.out.below hb)
  replace GE := Lib.hid (GE.out.below hb)
  replace NE := Lib.hid (NE.out.below hb)
  replace US := Lib.hid (US.out.below hb)
  replace V8 := Lib.hid (V8.out.below hb)
  replace K := Lib.hid (kept_tr K.out hb)
  clear hb
  obtain ⟨cX0, cX1, cX2, cX3, cXl⟩ := X.out.cells
  obtain ⟨cY0, cY1, cY2, cY3, cYl⟩ := Y.out.cells
  go_upto_region 13 with fail
  clear cX0 cX1 cX2 cX3 cXl cY0 cY1 cY2 cY3 cYl
  replace X := Lib.hid (X.out.al (.cells #[.int .i64 0, .int .i64 0, .string ⟨#[]⟩, .slice none 0 0] 26))
  replace Y := Lib.hid (Y.out.al (.cells #[.int .i64 0, .int .i64 0, .string ⟨#[]⟩, .slice none 0 0] 26))
  replace LT := Lib.hid (LT.out.al (.cells #[.int .i64 0, .int .i64 0, .string ⟨#[]⟩, .slice none 0 0] 26))
  replace GT := Lib.hid (GT.out.al (.cells #[.int .i64 0, .int .i64 0, .string ⟨#[]⟩, .slice none 0 0] 26))
  replace EQ := Lib.hid (EQ.out.al (.cells #[.int .i64 0, .int .i64 0, .string ⟨#[]⟩, .slice none 0 0] 26))
  replace LE := Lib.hid (LE.out.al (.cells #[.int .i64 0, .int .i64 0, .string ⟨#[]⟩, .slice none 0 0] 26))
  replace GE := Lib.hid (GE.out.al (.cells #[.int .i64 0, .int .i64 0, .string ⟨#[]⟩, .slice none 0 0] 26))
  replace NE := Lib.hid (NE.out.al (.cells #[.int .i64 0, .int .i64 0, .string ⟨#[]⟩, .slice none 0 0] 26))
  replace US := Lib.hid (US.out.al (.cells #[.int .i64 0, .int .i64 0, .string ⟨#[]⟩, .slice none 0 0] 26))
  replace V8 := Lib.hid (V8.out.al (.cells #[.int .i64 0, .int .i64 0, .string ⟨#[]⟩, .slice none 0 0] 26))
  have V9 := Lib.hid (NBlk.new w20 0 0 ⟨#[]⟩)
  replace K := Lib.hid (kept_al K.out (.cells #[.int .i64 0, .int .i64 0, .string ⟨#[]⟩, .slice none 0 0] 26))
  generalize w20.alloc (.cells #[.int .i64 0, .int .i64 0, .string ⟨#[]⟩, .slice none 0 0] 26) = w21 at *
  generalize w20.heap.size = gv9 at *
  obtain ⟨cLT0, cLT1, cLT2, cLT3, cLTl⟩ := LT.out.cells
  obtain ⟨cGT0, cGT1, cGT2, cGT3, cGTl⟩ := GT.out.cells
  obtain ⟨cEQ0, cEQ1, cEQ2, cEQ3, cEQl⟩ := EQ.out.cells
  obtain ⟨cLE0, cLE1, cLE2, cLE3, cLEl⟩ := LE.out.cells
  obtain ⟨cGE0, cGE1, cGE2, cGE3, cGEl⟩ := GE.out.cells
  obtain ⟨cNE0, cNE1, cNE2, cNE3, cNEl⟩ := NE.out.cells
  obtain ⟨cUS0, cUS1, cUS2, cUS3, cUSl⟩ := US.out.cells
  go_wp2_with fail
  (with_reducible refine (lnum _ _).mono ?_)
  rintro e w' ⟨rfl, rfl⟩
  go_wp2_with fail
  (with_reducible refine (lnum _ _).mono ?_)
  rintro e w' ⟨rfl, rfl⟩
  go_wp2_with fail
  (with_reducible refine (lnum _ _).mono ?_)
  rintro e w' ⟨rfl, rfl⟩
  go_wp2_with fail
  (with_reducible refine (law_awake _).mono ?_)
  rintro e w' ⟨rfl, hb⟩
  replace K := Lib.hid (kept_tr K.out hb)
  clear hb
  go_wp2_with fail
  go_ret
  exact ⟨rfl, K.out⟩
end Go.Proofs.Ytfefkbmpkggocaa
