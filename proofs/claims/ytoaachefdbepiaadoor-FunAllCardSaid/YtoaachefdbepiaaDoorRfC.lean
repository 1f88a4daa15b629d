/- The document's edge. -/
import Derived.Test.YtoaachefdbepiaaDoorRfA
import Derived.Test.YtoaachefdbepiaaDoorFunK
import Derived.Test.YtoaachefdbepiaaDoorValMh
namespace Go.Proofs.YtoaachefdbepiaaDoor
open Go.RowKit
set_option linter.unusedVariables false
set_option linter.unusedSimpArgs false

section
variable (w : World)
set_option maxHeartbeats 4000000 in
set_option maxRecDepth 20000 in
theorem redge_min (D : Nat) (l : List VL) (lv : Value) (h : RowRd w D l lv) (h0 : 0 < l.length) (hn : l.length ≤ 100000) (m : Int) (hm : IsMin m (l.map VL.num)) : Calls Tryd.prog 20 #[.bool true, lv] w (Doc (vnum m, 0) w) := by
  have H := Lib.hid h
  have HMM := Lib.hid hm
  obtain ⟨x0, hx0⟩ : ∃ x, l[0]? = some x := ⟨_, List.getElem?_eq_getElem h0⟩
  have X0 := Lib.hid hx0
  obtain ⟨ao, cap, rfl, hat⟩ := h.at
  obtain ⟨g, o, lu, rfl, -, c0, c1, c2, c3, -⟩ := hat 0 x0 hx0
  simp only [Nat.zero_mul, Nat.add_zero] at c0 c1 c2 c3
  have hg : g < w.heap.size := World.block_lt_of_cell? w _ c0
  clear h hm hat hx0
  go_enter Tryd.func20, Tryd.ntmps20
  go_wp2_with fail
  have B0 := Lib.hid (below_al (Below.refl w.heap.size w) (.cells #[.int .i64 0, .int .i64 0, .string ⟨#[]⟩, .slice none 0 0, .int .i64 0] 32))
  have GB := Lib.hid (show GBlk (w.alloc (.cells #[.int .i64 0, .int .i64 0, .string ⟨#[]⟩, .slice none 0 0, .int .i64 0] 32)) w.heap.size from heap_alloc_new w _)
  generalize w.alloc (.cells #[.int .i64 0, .int .i64 0, .string ⟨#[]⟩, .slice none 0 0, .int .i64 0] 32) = wa at *
  have HA := Lib.hid (H.out.below B0.out)
  clear c0 c1 c2 c3 hg
  go_loopg [5, 6] l.length (fun k nv iv wr => ∃ (i : Nat) (n : Int), iv = .int .i64 i ∧ nv = .int .i64 n ∧ l.length - i ≤ k ∧ i ≤ l.length ∧ 0 < i ∧ wa = wr ∧ Hid (IsMin n ((l.map VL.num).take i)))
  case atStart => exact ⟨1, x0.num, rfl, rfl, by omega, h0, by omega, rfl, Lib.hid (by
    have e : (l.map VL.num).take 1 = [x0.num] := by rw [List.take_add_one, List.getElem?_map, X0.out]; rfl
    rw [e]; exact ⟨by simp, by simp⟩)⟩
  case round =>
    obtain ⟨i, n, rfl, rfl, hk, hi, hi0, rfl, HI⟩ := hrel
    have HK := Lib.hid hk
    clear hk
    by_cases hil : i < l.length
    · obtain ⟨u, hu⟩ : ∃ u, l[i]? = some u := ⟨_, List.getElem?_eq_getElem hil⟩
      obtain ⟨ao2, cap2, e2, hat⟩ := HA.out.at
      simp only [Value.slice.injEq, true_and] at e2
      obtain ⟨rfl, rfl⟩ := e2
      obtain ⟨g2, o2, lu2, e3, -, k0, k1, k2, k3, -⟩ := hat i u hu
      simp only [Option.some.injEq, Addr.mk.injEq, and_true] at e3
      obtain ⟨rfl, rfl⟩ := e3
      have TK := Lib.hid (show (l.map VL.num).take (i + 1) = (l.map VL.num).take i ++ [u.num] by rw [List.take_add_one, List.getElem?_map, hu]; rfl)
      clear hat hu k0 k2 k3
      by_cases hlt : u.num < n
      · have NX := Lib.hid ((isMin_succ (y := u.num) HI.out).1 hlt)
        rw [← TK.out] at NX
        go_wp2_with fail
        go_roundg (l.length - (i + 1))
        case rel => exact ⟨i + 1, u.num, rfl, rfl, Nat.le_refl _, hil, Nat.succ_pos _, rfl, NX⟩
        case measure => have := HK.out; omega
      · have NX := Lib.hid ((isMin_succ (y := u.num) HI.out).2 hlt)
        rw [← TK.out] at NX
        go_wp2_with fail
        go_roundg (l.length - (i + 1))
        case rel => exact ⟨i + 1, n, rfl, rfl, Nat.le_refl _, hil, Nat.succ_pos _, rfl, NX⟩
        case measure => have := HK.out; omega
    · have e : n = m := isMin_one (by have h := HI.out; rwa [List.take_of_length_le (by rw [List.length_map]; omega)] at h) HMM.out
      subst e
      go_wp2_with fail
      refine (rnum _ _).mono ?_
      rintro e w1 ⟨rfl, hb⟩
      obtain ⟨⟨r0, r1, r2, r3, r4⟩, ⟨f0, f1, f2, f3, f4⟩, rl⟩ := (show GBlk w1 w.heap.size from (hb.block _ (Array.getElem?_eq_some_iff.1 GB.out).1).trans GB.out).full
      have B1 := Lib.hid (below_tr B0.out hb)
      clear hb
      go_wp2_with fail
      exact bodyPost_ret (v := .agg #[.int .i64 1, .int .i64 n, .string ⟨#[]⟩, .slice none 0 0, .int .i64 0]) (by simp [results, Tryd.results20, go_sem, r0, r1, r2, r3, r4, vnum, VL.kind, VL.num, VL.text]) rfl ⟨rfl, below_set5 B1.out (Nat.le_refl _) _ _ _ _ _⟩
set_option maxHeartbeats 4000000 in
set_option maxRecDepth 20000 in
theorem redge_max (D : Nat) (l : List VL) (lv : Value) (h : RowRd w D l lv) (h0 : 0 < l.length) (hn : l.length ≤ 100000) (m : Int) (hm : IsMax m (l.map VL.num)) : Calls Tryd.prog 20 #[.bool false, lv] w (Doc (vnum m, 0) w) := by
  have H := Lib.hid h
  have HMM := Lib.hid hm
  obtain ⟨x0, hx0⟩ : ∃ x, l[0]? = some x := ⟨_, List.getElem?_eq_getElem h0⟩
  have X0 := Lib.hid hx0
  obtain ⟨ao, cap, rfl, hat⟩ := h.at
  obtain ⟨g, o, lu, rfl, -, c0, c1, c2, c3, -⟩ := hat 0 x0 hx0
  simp only [Nat.zero_mul, Nat.add_zero] at c0 c1 c2 c3
  have hg : g < w.heap.size := World.block_lt_of_cell? w _ c0
  clear h hm hat hx0
  go_enter Tryd.func20, Tryd.ntmps20
  go_wp2_with fail
  have B0 := Lib.hid (below_al (Below.refl w.heap.size w) (.cells #[.int .i64 0, .int .i64 0, .string ⟨#[]⟩, .slice none 0 0, .int .i64 0] 32))
  have GB := Lib.hid (show GBlk (w.alloc (.cells #[.int .i64 0, .int .i64 0, .string ⟨#[]⟩, .slice none 0 0, .int .i64 0] 32)) w.heap.size from heap_alloc_new w _)
  generalize w.alloc (.cells #[.int .i64 0, .int .i64 0, .string ⟨#[]⟩, .slice none 0 0, .int .i64 0] 32) = wa at *
  have HA := Lib.hid (H.out.below B0.out)
  clear c0 c1 c2 c3 hg
  go_loopg [5, 6] l.length (fun k nv iv wr => ∃ (i : Nat) (n : Int), iv = .int .i64 i ∧ nv = .int .i64 n ∧ l.length - i ≤ k ∧ i ≤ l.length ∧ 0 < i ∧ wa = wr ∧ Hid (IsMax n ((l.map VL.num).take i)))
  case atStart => exact ⟨1, x0.num, rfl, rfl, by omega, h0, by omega, rfl, Lib.hid (by
    have e : (l.map VL.num).take 1 = [x0.num] := by rw [List.take_add_one, List.getElem?_map, X0.out]; rfl
    rw [e]; exact ⟨by simp, by simp⟩)⟩
  case round =>
    obtain ⟨i, n, rfl, rfl, hk, hi, hi0, rfl, HI⟩ := hrel
    have HK := Lib.hid hk
    clear hk
    by_cases hil : i < l.length
    · obtain ⟨u, hu⟩ : ∃ u, l[i]? = some u := ⟨_, List.getElem?_eq_getElem hil⟩
      obtain ⟨ao2, cap2, e2, hat⟩ := HA.out.at
      simp only [Value.slice.injEq, true_and] at e2
      obtain ⟨rfl, rfl⟩ := e2
      obtain ⟨g2, o2, lu2, e3, -, k0, k1, k2, k3, -⟩ := hat i u hu
      simp only [Option.some.injEq, Addr.mk.injEq, and_true] at e3
      obtain ⟨rfl, rfl⟩ := e3
      have TK := Lib.hid (show (l.map VL.num).take (i + 1) = (l.map VL.num).take i ++ [u.num] by rw [List.take_add_one, List.getElem?_map, hu]; rfl)
      clear hat hu k0 k2 k3
      by_cases hlt : n < u.num
      · have NX := Lib.hid ((isMax_succ (y := u.num) HI.out).1 hlt)
        rw [← TK.out] at NX
        go_wp2_with fail
        go_roundg (l.length - (i + 1))
        case rel => exact ⟨i + 1, u.num, rfl, rfl, Nat.le_refl _, hil, Nat.succ_pos _, rfl, NX⟩
        case measure => have := HK.out; omega
      · have NX := Lib.hid ((isMax_succ (y := u.num) HI.out).2 hlt)
        rw [← TK.out] at NX
        go_wp2_with fail
        go_roundg (l.length - (i + 1))
        case rel => exact ⟨i + 1, n, rfl, rfl, Nat.le_refl _, hil, Nat.succ_pos _, rfl, NX⟩
        case measure => have := HK.out; omega
    · have e : n = m := isMax_one (by have h := HI.out; rwa [List.take_of_length_le (by rw [List.length_map]; omega)] at h) HMM.out
      subst e
      go_wp2_with fail
      refine (rnum _ _).mono ?_
      rintro e w1 ⟨rfl, hb⟩
      obtain ⟨⟨r0, r1, r2, r3, r4⟩, ⟨f0, f1, f2, f3, f4⟩, rl⟩ := (show GBlk w1 w.heap.size from (hb.block _ (Array.getElem?_eq_some_iff.1 GB.out).1).trans GB.out).full
      have B1 := Lib.hid (below_tr B0.out hb)
      clear hb
      go_wp2_with fail
      exact bodyPost_ret (v := .agg #[.int .i64 1, .int .i64 n, .string ⟨#[]⟩, .slice none 0 0, .int .i64 0]) (by simp [results, Tryd.results20, go_sem, r0, r1, r2, r3, r4, vnum, VL.kind, VL.num, VL.text]) rfl ⟨rfl, below_set5 B1.out (Nat.le_refl _) _ _ _ _ _⟩
end
end Go.Proofs.YtoaachefdbepiaaDoor
