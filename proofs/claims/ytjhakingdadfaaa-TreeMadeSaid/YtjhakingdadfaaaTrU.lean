/- Package tree's calls; the law's awake. -/
import Derived.Test.YtjhakingdadfaaaTrT
import Derived.Test.YtjhakingdadfaaaTrI
namespace Go.Proofs.Ytjhakingdadfaaa
open Go.RowKit
set_option linter.unusedVariables false
set_option linter.unusedSimpArgs false
section
variable (w : World)
set_option maxHeartbeats 4000000 in
set_option maxRecDepth 20000 in
theorem pUp (l : List I12) (lv : Value) (h : IRow w l lv) (hl : l.length ≤ 1000) (hs : Srt l) (s : ByteArray) :
    Calls Try.prog 14 #[lv, .string s] w (MadeStrs (upF l l.length s) w) := by
  have PF := Lib.hid (pup w l lv h hl hs s)
  obtain ⟨ao, cap, rfl⟩ := h.shape
  clear h hs
  go_enter Try.func14, Try.ntmps14
  go_wp2_with fail
  with_reducible refine PF.out.mono ?_
  rintro e w1 ⟨v, rfl, hb, ho⟩
  have B1 := Lib.hid hb
  have O1 := Lib.hid ho
  clear hb ho
  go_wp2_with fail
  go_ret
  exact ⟨_, rfl, B1.out, O1.out⟩
set_option maxHeartbeats 4000000 in
set_option maxRecDepth 20000 in
theorem pBelow (l : List I12) (lv : Value) (h : IRow w l lv) (hl : l.length ≤ 200) (hz : ∀ u ∈ l, u.name.size ≤ 1000000 ∧ u.parent.size ≤ 1000000) (s : ByteArray) (hsz : s.size ≤ 1000000) :
    Calls Try.prog 18 #[lv, .string s] w (MadeStrs (belowI l s) w) := by
  have BR := Lib.hid (pbranch w l lv h (by omega) hz)
  have UN := Lib.hid (fun W (hW : Below w.heap.size w W) B g d V (hM : MapIn W B g l.length d V (fun s => kidsT l s l.length)) => punder W l lv (h.below hW) hl s hsz B g d V hM)
  obtain ⟨ao, cap, rfl⟩ := h.shape
  clear h hz
  go_enter Try.func18, Try.ntmps18
  go_wp2_with fail
  with_reducible refine BR.out.mono ?_
  rintro e w1 ⟨g, rfl, hb1, d, V, hM⟩
  have C1 := Lib.hid hb1
  have M1 := Lib.hid hM
  clear hb1 hM BR
  go_wp2_with fail
  with_reducible refine (UN.out _ C1.out g g d V M1.out).mono ?_
  rintro e w2 ⟨v, rfl, hb, ho⟩
  have B1 := Lib.hid (below_tr C1.out hb)
  have O1 := Lib.hid (own_lower0 ho C1.out.size)
  clear hb ho
  go_wp2_with fail
  go_ret
  exact ⟨_, rfl, B1.out, O1.out⟩
set_option maxHeartbeats 4000000 in
set_option maxRecDepth 20000 in
theorem pDepth (l : List I12) (lv : Value) (h : IRow w l lv) (hl : l.length ≤ 1000) (hs : Srt l) (s : ByteArray) :
    Calls Try.prog 17 #[lv, .string s] w (Made (.int .i64 ((upF l l.length s).length : Nat)) w) := by
  have PF := Lib.hid (pUp w l lv h hl hs s)
  obtain ⟨ao, cap, rfl⟩ := h.shape
  clear h hs
  go_enter Try.func17, Try.ntmps17
  go_wp2_with fail
  with_reducible refine PF.out.mono ?_
  rintro e w1 ⟨v, rfl, hb, ho⟩
  have B1 := Lib.hid hb
  obtain ⟨oo, oc, rfl⟩ := ho.shape
  clear hb ho
  go_wp2_with fail
  go_ret
  exact ⟨rfl, B1.out⟩
end
def aI : I12 := ⟨⟨#[97]⟩, ⟨#[]⟩, z3, z3, z3, 1⟩
theorem a_right : RT [aI] := ⟨by decide, List.pairwise_singleton .., fun x hx => by
  obtain rfl : x = aI := by simpa using hx
  kernel_rfl, fun x hx => by
  obtain rfl : x = aI := by simpa using hx
  kernel_rfl⟩
theorem a_find : findI [aI] ⟨#[97]⟩ = 0 := by kernel_rfl
theorem a_up : (upF [aI] [aI].length ⟨#[97]⟩).length = 1 := by kernel_rfl
theorem a_below : (belowI [aI] ⟨#[]⟩).length = 1 := by kernel_rfl
theorem nil_right : rightP [] := right_iff.2 RT.nil
section
variable (w : World)
set_option maxHeartbeats 8000000 in
set_option maxRecDepth 20000 in
theorem law_awake12 : Calls Try.prog 8 #[] w (Made (.bool true) w) := by
  have R0 := Lib.hid (fun W => pright W [] (.slice none 0 0) (IRow.nil W) (fun u hu => by cases hu) true (iff_of_true rfl nil_right))
  have R1 := Lib.hid (fun W lv (h : IRow W [aI] lv) => pright W [aI] lv h (fun u hu => by
    obtain rfl : u = aI := by simpa using hu
    decide) true (iff_of_true rfl (right_iff.2 a_right)))
  have FD := Lib.hid (fun W lv (h : IRow W [aI] lv) => pFind W [aI] lv h (by decide) a_right.srt ⟨#[97]⟩)
  have DP := Lib.hid (fun W lv (h : IRow W [aI] lv) => pDepth W [aI] lv h (by decide) a_right.srt ⟨#[97]⟩)
  have BL := Lib.hid (fun W lv (h : IRow W [aI] lv) => pBelow W [aI] lv h (by decide) (fun u hu => by
    obtain rfl : u = aI := by simpa using hu
    decide) ⟨#[]⟩ (by decide))
  rw [a_find] at FD
  rw [a_up] at DP
  go_enter Try.func8, Try.ntmps8
  have I0 := Lib.hid (show IRow (w.alloc (.cells #[.string ⟨#[97]⟩, .string ⟨#[]⟩, .int .i64 0, .int .i64 0, .int .i64 0, .int .i64 0, .int .i64 0, .int .i64 0, .int .i64 0, .int .i64 0, .int .i64 0, .int .i64 1] 32)) [aI] (.slice (some ⟨w.heap.size, 0, none⟩) 1 1) from
    ⟨some ⟨w.heap.size, 0, none⟩, 1, rfl, Nat.le_refl _, by decide, fun i u hu => by
      cases i with
      | zero =>
        obtain rfl : aI = u := by simpa using hu
        exact ⟨w.heap.size, 0, rfl, (IBlk.new w aI).cells⟩
      | succ i => simp at hu⟩)
  have B0 := Lib.hid (below_al (Below.refl w.heap.size w) (.cells #[.string ⟨#[97]⟩, .string ⟨#[]⟩, .int .i64 0, .int .i64 0, .int .i64 0, .int .i64 0, .int .i64 0, .int .i64 0, .int .i64 0, .int .i64 0, .int .i64 0, .int .i64 1] 32))
  go_wp2_with fail
  generalize hbx : w.heap.size = bx at *
  generalize w.alloc (.cells #[.string ⟨#[97]⟩, .string ⟨#[]⟩, .int .i64 0, .int .i64 0, .int .i64 0, .int .i64 0, .int .i64 0, .int .i64 0, .int .i64 0, .int .i64 0, .int .i64 0, .int .i64 1] 32) = wb at *
  have HBX := Lib.hid hbx
  clear hbx
  with_reducible refine (R0.out _).mono ?_
  rintro e w1 ⟨rfl, hb⟩
  have B1 := Lib.hid (B0.out.trans (hb.mono (by have := B0.out.size; have := HBX.out; omega)))
  have I1 := Lib.hid (I0.out.below hb)
  clear hb
  go_wp2_with fail
  with_reducible refine (R1.out _ _ I1.out).mono ?_
  rintro e w2 ⟨rfl, hb⟩
  have B2 := Lib.hid (B1.out.trans (hb.mono (by have := B1.out.size; have := HBX.out; omega)))
  have I2 := Lib.hid (I1.out.below hb)
  clear hb
  go_wp2_with fail
  with_reducible refine (FD.out _ _ I2.out).mono ?_
  rintro e w3 ⟨rfl, hb⟩
  have B3 := Lib.hid (B2.out.trans (hb.mono (by have := B2.out.size; have := HBX.out; omega)))
  have I3 := Lib.hid (I2.out.below hb)
  clear hb
  go_wp2_with fail
  with_reducible refine (DP.out _ _ I3.out).mono ?_
  rintro e w4 ⟨rfl, hb⟩
  have B4 := Lib.hid (B3.out.trans (hb.mono (by have := B3.out.size; have := HBX.out; omega)))
  have I4 := Lib.hid (I3.out.below hb)
  clear hb
  go_wp2_with fail
  with_reducible refine (BL.out _ _ I4.out).mono ?_
  rintro e w5 ⟨v, rfl, hb, ho⟩
  have B5 := Lib.hid (B4.out.trans (hb.mono (by have := B4.out.size; have := HBX.out; omega)))
  obtain ⟨oo, oc, rfl⟩ := ho.shape
  rw [a_below]
  clear hb ho
  go_wp2_with fail
  go_ret
  exact ⟨rfl, by rw [HBX.out]; exact B5.out⟩
set_option maxHeartbeats 8000000 in
set_option maxRecDepth 20000 in
theorem psame (l : List I12) (lv : Value) (h : IRow w l lv) (hr : RT l) (hz : ∀ u ∈ l, u.name.size ≤ 1000000 ∧ u.parent.size ≤ 1000000) (s : ByteArray) (hsz : s.size ≤ 1000000) : Calls Try.prog 11 #[lv, .string s] w (Made (.bool true) w) := by
  obtain ⟨ao, cap, rfl⟩ := h.shape
  have BR := Lib.hid (fun W (hW : Below w.heap.size w W) => pFind W l (.slice ao l.length cap) (h.below hW) (by have := hr.len; omega) hr.srt s)
  have B2 := Lib.hid (fun W (hW : Below w.heap.size w W) => rfind W l (.slice ao l.length cap) (h.below hW) s)
  have U1 := Lib.hid (fun W (hW : Below w.heap.size w W) => pUp W l (.slice ao l.length cap) (h.below hW) (by have := hr.len; omega) hr.srt s)
  have U2 := Lib.hid (fun W (hW : Below w.heap.size w W) => rup W l (.slice ao l.length cap) (h.below hW) (by have := hr.len; omega) s)
  have L1 := Lib.hid (fun W (hW : Below w.heap.size w W) => pBelow W l (.slice ao l.length cap) (h.below hW) (by have := hr.len; omega) hz s hsz)
  have L2 := Lib.hid (fun W (hW : Below w.heap.size w W) => rbelow W l (.slice ao l.length cap) (h.below hW) (by have := hr.len; omega) s)
  have D1 := Lib.hid (fun W (hW : Below w.heap.size w W) => pDepth W l (.slice ao l.length cap) (h.below hW) (by have := hr.len; omega) hr.srt s)
  have e1 := up_same (hr.up s)
  rw [e1] at U1 D1
  have UL := Lib.hid (show (upI l s).length ≤ 1000 from by have := hr.up s; have := hr.len; omega)
  have LL := Lib.hid (show (belowI l s).length ≤ 1000 from by
    have h1 := belowTo_len l s l.length
    rw [belowTo_all] at h1
    have := hr.len; omega)
  generalize findI l s = q at *
  generalize upI l s = xs at *
  generalize belowI l s = ys at *
  clear e1 h hr hz
  go_enter Try.func11, Try.ntmps11
  go_wp2_with fail
  with_reducible refine (BR.out _ (Below.refl _ _)).mono ?_
  rintro e w1 ⟨rfl, hb⟩
  have C1 := Lib.hid hb
  clear hb
  go_wp2_with fail
  with_reducible refine (B2.out _ C1.out).mono ?_
  rintro e w2 ⟨rfl, rfl⟩
  go_wp2_with fail
  with_reducible refine (U1.out _ C1.out).mono ?_
  rintro e w3 ⟨v3, rfl, hb, ho3⟩
  have C3 := Lib.hid (below_tr C1.out hb)
  have O3 := Lib.hid ho3
  clear hb ho3
  go_wp2_with fail
  with_reducible refine (U2.out _ C3.out).mono ?_
  rintro e w4 ⟨v4, rfl, hb, ho4⟩
  have C4 := Lib.hid (below_tr C3.out hb)
  have O4 := Lib.hid ho4
  have O3b := Lib.hid (O3.out.below hb)
  clear hb ho4
  go_wp2_with fail
  with_reducible refine (rtexts _ xs xs _ _ v3 v4 O3b.out O4.out (by have := UL.out; omega)).mono ?_
  rintro e w5 ⟨rfl, hb⟩
  have C5 := Lib.hid (below_tr C4.out hb)
  rw [decide_eq_true rfl]
  clear hb O3 O4 O3b
  go_wp2_with fail
  with_reducible refine (L1.out _ C5.out).mono ?_
  rintro e w6 ⟨v6, rfl, hb, ho6⟩
  have C6 := Lib.hid (below_tr C5.out hb)
  have O6 := Lib.hid ho6
  clear hb ho6
  go_wp2_with fail
  with_reducible refine (L2.out _ C6.out).mono ?_
  rintro e w7 ⟨v7, rfl, hb, ho7⟩
  have C7 := Lib.hid (below_tr C6.out hb)
  have O7 := Lib.hid ho7
  have O6b := Lib.hid (O6.out.below hb)
  clear hb ho7
  go_wp2_with fail
  with_reducible refine (rtexts _ ys ys _ _ v6 v7 O6b.out O7.out (by have := LL.out; omega)).mono ?_
  rintro e w8 ⟨rfl, hb⟩
  have C8 := Lib.hid (below_tr C7.out hb)
  rw [decide_eq_true rfl]
  clear hb O6 O7 O6b
  go_wp2_with fail
  with_reducible refine (D1.out _ C8.out).mono ?_
  rintro e w9 ⟨rfl, hb⟩
  have C9 := Lib.hid (below_tr C8.out hb)
  clear hb
  go_wp2_with fail
  with_reducible refine (U2.out _ C9.out).mono ?_
  rintro e w10 ⟨v10, rfl, hb, ho⟩
  have C10 := Lib.hid (below_tr C9.out hb)
  obtain ⟨oo, oc, rfl⟩ := ho.shape
  clear hb ho
  go_wp2_with fail
  go_ret
  exact ⟨by simp, C10.out⟩
end
end Go.Proofs.Ytjhakingdadfaaa
