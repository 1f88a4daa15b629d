/- The document's Call where the arguments are taken. -/
import Derived.Test.YtoaachefdbepiaaDoorRfJ
import Derived.Test.YtoaachefdbepiaaDoorRfH
import Derived.Test.YtoaachefdbepiaaDoorValY
namespace Go.Proofs.YtoaachefdbepiaaDoor
open Go.RowKit
set_option linter.unusedVariables false
set_option linter.unusedSimpArgs false

section
variable (w : World)
set_option maxRecDepth 20000
set_option maxHeartbeats 4000000 in
theorem rcall_min (D : Nat) (l : List VL) (lv : Value) (hr : RowRd w D l lv) (hkl : ∀ x ∈ l, x.kids.length ≤ 1000) (hnk : ∀ x ∈ l, x.kind ≠ 4 → x.kids = []) (hf : fitAllB [1] l = true) (h0 : 0 < l.length) (hn : l.length ≤ 1000) (m : Int) (hm : IsMin m (l.map VL.num)) : Calls Tryd.prog 8 #[.string ⟨#[109, 105, 110]⟩, lv] w (Doc (vnum m, 0) w) := by
  have CC := Lib.hid (fun W (hW : Below w.heap.size w W) => redge_min W D l lv (hr.below hW) h0 (by omega) m hm)
  clear hm
  have RR := Lib.hid (fun W (hW : Below w.heap.size w W) => by have := rright_min W D l lv (hr.below hW) hn hkl hnk; rw [hf] at this; exact this)
  have HR := Lib.hid hr
  obtain ⟨lao, lcap, rfl⟩ := hr.shape
  clear hr hnk hf
  have h1 : ¬ (l.length : Int) < 1 := by omega
  have h2 : ¬ (1073741824 : Int) < (l.length : Int) := by omega
  have B0 := Lib.hid (below_al (Below.refl w.heap.size w) (.cells #[.int .i64 0, .int .i64 0, .string ⟨#[]⟩, .slice none 0 0, .int .i64 0] 32))
  have G0 := Lib.hid (show GotB (w.alloc (.cells #[.int .i64 0, .int .i64 0, .string ⟨#[]⟩, .slice none 0 0, .int .i64 0] 32)) w.heap.size 0 0 ⟨#[]⟩ 0 from heap_alloc_new w _)
  go_enter Tryd.func8, Tryd.ntmps8
  go_wp2_with fail
  generalize w.alloc (.cells #[.int .i64 0, .int .i64 0, .string ⟨#[]⟩, .slice none 0 0, .int .i64 0] 32) = wa at *
  refine (rwants_min _).mono ?_
  rintro e w1 ⟨rfl, rfl⟩
  go_wp2_with fail
  refine (RR.out _ B0.out).mono ?_
  rintro e w1 ⟨rfl, hb1⟩
  have BB := Lib.hid (below_tr B0.out hb1)
  have GB := Lib.hid (G0.out.below hb1)
  clear hb1 RR G0 B0
  go_wp2_with fail
  refine (CC.out _ BB.out).mono ?_
  rintro e w2 ⟨rfl, hb⟩
  obtain ⟨⟨r0, r1, r2, r3, r4⟩, ⟨f0, f1, f2, f3, f4⟩, rl⟩ := (GB.out.below hb).full
  have B1 := Lib.hid (below_tr BB.out hb)
  clear hb
  go_wp2_with fail
  exact bodyPost_ret (v := .agg #[.int .i64 1, .int .i64 m, .string ⟨#[]⟩, .slice none 0 0, .int .i64 0]) (by simp [results, Tryd.results8, go_sem, r0, r1, r2, r3, r4, vz, vnum, VL.kind, VL.num, VL.text]) rfl ⟨rfl, below_set5 B1.out (Nat.le_refl _) _ _ _ _ _⟩
set_option maxHeartbeats 4000000 in
theorem rcall_max (D : Nat) (l : List VL) (lv : Value) (hr : RowRd w D l lv) (hkl : ∀ x ∈ l, x.kids.length ≤ 1000) (hnk : ∀ x ∈ l, x.kind ≠ 4 → x.kids = []) (hf : fitAllB [1] l = true) (h0 : 0 < l.length) (hn : l.length ≤ 1000) (m : Int) (hm : IsMax m (l.map VL.num)) : Calls Tryd.prog 8 #[.string ⟨#[109, 97, 120]⟩, lv] w (Doc (vnum m, 0) w) := by
  have CC := Lib.hid (fun W (hW : Below w.heap.size w W) => redge_max W D l lv (hr.below hW) h0 (by omega) m hm)
  clear hm
  have RR := Lib.hid (fun W (hW : Below w.heap.size w W) => by have := rright_max W D l lv (hr.below hW) hn hkl hnk; rw [hf] at this; exact this)
  have HR := Lib.hid hr
  obtain ⟨lao, lcap, rfl⟩ := hr.shape
  clear hr hnk hf
  have h1 : ¬ (l.length : Int) < 1 := by omega
  have h2 : ¬ (1073741824 : Int) < (l.length : Int) := by omega
  have B0 := Lib.hid (below_al (Below.refl w.heap.size w) (.cells #[.int .i64 0, .int .i64 0, .string ⟨#[]⟩, .slice none 0 0, .int .i64 0] 32))
  have G0 := Lib.hid (show GotB (w.alloc (.cells #[.int .i64 0, .int .i64 0, .string ⟨#[]⟩, .slice none 0 0, .int .i64 0] 32)) w.heap.size 0 0 ⟨#[]⟩ 0 from heap_alloc_new w _)
  go_enter Tryd.func8, Tryd.ntmps8
  go_wp2_with fail
  generalize w.alloc (.cells #[.int .i64 0, .int .i64 0, .string ⟨#[]⟩, .slice none 0 0, .int .i64 0] 32) = wa at *
  refine (rwants_max _).mono ?_
  rintro e w1 ⟨rfl, rfl⟩
  go_wp2_with fail
  refine (RR.out _ B0.out).mono ?_
  rintro e w1 ⟨rfl, hb1⟩
  have BB := Lib.hid (below_tr B0.out hb1)
  have GB := Lib.hid (G0.out.below hb1)
  clear hb1 RR G0 B0
  go_wp2_with fail
  refine (CC.out _ BB.out).mono ?_
  rintro e w2 ⟨rfl, hb⟩
  obtain ⟨⟨r0, r1, r2, r3, r4⟩, ⟨f0, f1, f2, f3, f4⟩, rl⟩ := (GB.out.below hb).full
  have B1 := Lib.hid (below_tr BB.out hb)
  clear hb
  go_wp2_with fail
  exact bodyPost_ret (v := .agg #[.int .i64 1, .int .i64 m, .string ⟨#[]⟩, .slice none 0 0, .int .i64 0]) (by simp [results, Tryd.results8, go_sem, r0, r1, r2, r3, r4, vz, vnum, VL.kind, VL.num, VL.text]) rfl ⟨rfl, below_set5 B1.out (Nat.le_refl _) _ _ _ _ _⟩
set_option maxHeartbeats 4000000 in
theorem rcall_sum (D : Nat) (v : VL) (lv : Value) (hr : RowRd w D [v] lv) (hkl : ∀ x ∈ [v], x.kids.length ≤ 1000) (hnk : ∀ x ∈ [v], x.kind ≠ 4 → x.kids = []) (hf : fitAllB [4] [v] = true) (hi : ∀ u ∈ v.kids, I64 u.num) : Calls Tryd.prog 8 #[.string ⟨#[115, 117, 109]⟩, lv] w (Doc (sumR 0 (v.kids.map VL.num)) w) := by
  have HI := Lib.hid hi
  clear hi
  have RR := Lib.hid (fun W (hW : Below w.heap.size w W) => by have := rright_sum W D [v] lv (hr.below hW) (by simp) hkl hnk; rw [hf] at this; exact this)
  have HR := Lib.hid hr
  obtain ⟨lao, lcap, rfl⟩ := hr.shape
  clear hr hnk hf
  have B0 := Lib.hid (below_al (Below.refl w.heap.size w) (.cells #[.int .i64 0, .int .i64 0, .string ⟨#[]⟩, .slice none 0 0, .int .i64 0] 32))
  have G0 := Lib.hid (show GotB (w.alloc (.cells #[.int .i64 0, .int .i64 0, .string ⟨#[]⟩, .slice none 0 0, .int .i64 0] 32)) w.heap.size 0 0 ⟨#[]⟩ 0 from heap_alloc_new w _)
  go_enter Tryd.func8, Tryd.ntmps8
  go_wp2_with fail
  generalize w.alloc (.cells #[.int .i64 0, .int .i64 0, .string ⟨#[]⟩, .slice none 0 0, .int .i64 0] 32) = wa at *
  refine (rwants_sum _).mono ?_
  rintro e w1 ⟨rfl, rfl⟩
  go_wp2_with fail
  refine (RR.out _ B0.out).mono ?_
  rintro e w1 ⟨rfl, hb1⟩
  have BB := Lib.hid (below_tr B0.out hb1)
  have GB := Lib.hid (G0.out.below hb1)
  clear hb1 RR G0 B0
  obtain ⟨ao2, cap2, e2, hat⟩ := (HR.out.below BB.out).at
  simp only [Value.slice.injEq, true_and] at e2
  obtain ⟨rfl, rfl⟩ := e2
  obtain ⟨g2, o2, lu, rfl, -, c0, c1, c2, c3, hu⟩ := hat 0 v rfl
  obtain ⟨uo, uc, rfl⟩ := hu.shape
  simp only [Nat.zero_mul, Nat.add_zero] at c0 c1 c2 c3
  have RU := Lib.hid hu
  have cl := World.block_lt_of_cell? _ _ c0
  simp only at cl
  clear hat hu
  have CC := Lib.hid (radded w1 (D - 1) v.kids _ RU.out HI.out)
  generalize sumR 0 (v.kids.map VL.num) = r at *
  go_wp2_with fail
  refine CC.out.mono ?_
  rintro e w2 ⟨rfl, hb⟩
  obtain ⟨⟨r0, r1, r2, r3, r4⟩, ⟨f0, f1, f2, f3, f4⟩, rl⟩ := (GB.out.below hb).full
  have B1 := Lib.hid (below_tr BB.out hb)
  clear hb
  go_wp2_with fail
  exact bodyPost_ret (v := .agg #[.int .i64 r.1.kind, .int .i64 r.1.num, .string r.1.text, .slice none 0 0, .int .i64 r.2]) (by simp [results, Tryd.results8, go_sem, r0, r1, r2, r3, r4, vz, vnum, VL.kind, VL.num, VL.text]) rfl ⟨rfl, below_set5 B1.out (Nat.le_refl _) _ _ _ _ _⟩
set_option maxHeartbeats 4000000 in
theorem rcall_len (D : Nat) (v : VL) (lv : Value) (hr : RowRd w D [v] lv) (hkl : ∀ x ∈ [v], x.kids.length ≤ 1000) (hnk : ∀ x ∈ [v], x.kind ≠ 4 → x.kids = []) (hf : fitAllB [6] [v] = true) (hs : v.text.size ≤ 1000000) : Calls Tryd.prog 8 #[.string ⟨#[108, 101, 110]⟩, lv] w (Doc (vnum ((v.kids.length : Int) + (v.text.size : Int)), 0) w) := by
  have hkv := hkl v (by simp)
  have RR := Lib.hid (fun W (hW : Below w.heap.size w W) => by have := rright_len W D [v] lv (hr.below hW) (by simp) hkl hnk; rw [hf] at this; exact this)
  have HR := Lib.hid hr
  obtain ⟨lao, lcap, rfl⟩ := hr.shape
  clear hr hnk hf
  have B0 := Lib.hid (below_al (Below.refl w.heap.size w) (.cells #[.int .i64 0, .int .i64 0, .string ⟨#[]⟩, .slice none 0 0, .int .i64 0] 32))
  have G0 := Lib.hid (show GotB (w.alloc (.cells #[.int .i64 0, .int .i64 0, .string ⟨#[]⟩, .slice none 0 0, .int .i64 0] 32)) w.heap.size 0 0 ⟨#[]⟩ 0 from heap_alloc_new w _)
  go_enter Tryd.func8, Tryd.ntmps8
  go_wp2_with fail
  generalize w.alloc (.cells #[.int .i64 0, .int .i64 0, .string ⟨#[]⟩, .slice none 0 0, .int .i64 0] 32) = wa at *
  refine (rwants_len _).mono ?_
  rintro e w1 ⟨rfl, rfl⟩
  go_wp2_with fail
  refine (RR.out _ B0.out).mono ?_
  rintro e w1 ⟨rfl, hb1⟩
  have BB := Lib.hid (below_tr B0.out hb1)
  have GB := Lib.hid (G0.out.below hb1)
  clear hb1 RR G0 B0
  obtain ⟨ao2, cap2, e2, hat⟩ := (HR.out.below BB.out).at
  simp only [Value.slice.injEq, true_and] at e2
  obtain ⟨rfl, rfl⟩ := e2
  obtain ⟨g2, o2, lu, rfl, -, c0, c1, c2, c3, hu⟩ := hat 0 v rfl
  obtain ⟨uo, uc, rfl⟩ := hu.shape
  simp only [Nat.zero_mul, Nat.add_zero] at c0 c1 c2 c3
  have RU := Lib.hid hu
  have cl := World.block_lt_of_cell? _ _ c0
  simp only at cl
  clear hat hu
  have hwr : IntKind.i64.wrap ((v.kids.length : Int) + (v.text.size : Int)) = (v.kids.length : Int) + (v.text.size : Int) := by rw [IntKind.wrap_i64]; omega
  go_wp2_with fail
  go_region_with (first | (go_at_call 22; (with_reducible refine (rnum _ _).mono ?_); rintro e w2 ⟨rfl, hb⟩; replace hb := below_tr (below_drew (Below.refl w1.heap.size w1)) hb; obtain ⟨⟨r0, r1, r2, r3, r4⟩, ⟨f0, f1, f2, f3, f4⟩, rl⟩ := (GB.out.below hb).full; have B1 := Lib.hid (below_tr BB.out hb); clear hb))
  all_goals go_wp2_with fail
  all_goals exact bodyPost_ret (v := .agg #[.int .i64 1, .int .i64 ((v.kids.length : Int) + (v.text.size : Int)), .string ⟨#[]⟩, .slice none 0 0, .int .i64 0]) (by simp [results, Tryd.results8, go_sem, r0, r1, r2, r3, r4, vnum, VL.kind, VL.num, VL.text]) rfl ⟨rfl, below_set5 B1.out (Nat.le_refl _) _ _ _ _ _⟩
set_option maxHeartbeats 4000000 in
theorem rcall_join (D : Nat) (a b : VL) (lv : Value) (hr : RowRd w D [a, b] lv) (hkl : ∀ x ∈ [a, b], x.kids.length ≤ 1000) (hnk : ∀ x ∈ [a, b], x.kind ≠ 4 → x.kids = []) (hf : fitAllB [2, 5] [a, b] = true) (ha : a.text.size ≤ 1000) (hs : ∀ v ∈ b.kids, v.text.size ≤ 1000) : Calls Tryd.prog 8 #[.string ⟨#[106, 111, 105, 110]⟩, lv] w (Doc (joinR (weave a.text (b.kids.map VL.text))) w) := by
  have HS := Lib.hid hs
  have hkb := hkl b (by simp)
  clear hs
  have RR := Lib.hid (fun W (hW : Below w.heap.size w W) => by have := rright_join W D [a, b] lv (hr.below hW) (by simp) (by simp) hkl hnk; rw [hf] at this; exact this)
  have HR := Lib.hid hr
  obtain ⟨lao, lcap, rfl⟩ := hr.shape
  clear hr hnk hf
  have B0 := Lib.hid (below_al (Below.refl w.heap.size w) (.cells #[.int .i64 0, .int .i64 0, .string ⟨#[]⟩, .slice none 0 0, .int .i64 0] 32))
  have G0 := Lib.hid (show GotB (w.alloc (.cells #[.int .i64 0, .int .i64 0, .string ⟨#[]⟩, .slice none 0 0, .int .i64 0] 32)) w.heap.size 0 0 ⟨#[]⟩ 0 from heap_alloc_new w _)
  go_enter Tryd.func8, Tryd.ntmps8
  go_wp2_with fail
  generalize w.alloc (.cells #[.int .i64 0, .int .i64 0, .string ⟨#[]⟩, .slice none 0 0, .int .i64 0] 32) = wa at *
  refine (rwants_join _).mono ?_
  rintro e w1 ⟨rfl, rfl⟩
  go_wp2_with fail
  refine (RR.out _ B0.out).mono ?_
  rintro e w1 ⟨rfl, hb1⟩
  have BB := Lib.hid (below_tr B0.out hb1)
  have GB := Lib.hid (G0.out.below hb1)
  clear hb1 RR G0 B0
  obtain ⟨ao2, cap2, e2, hat⟩ := (HR.out.below BB.out).at
  simp only [Value.slice.injEq, true_and] at e2
  obtain ⟨rfl, rfl⟩ := e2
  obtain ⟨g2, o2, la, rfl, -, c0, c1, c2, c3, ha⟩ := hat 0 a rfl
  obtain ⟨g3, o3, lb, e3, -, d0, d1, d2, d3, hbb⟩ := hat 1 b rfl
  simp only [Option.some.injEq, Addr.mk.injEq, and_true] at e3
  obtain ⟨rfl, rfl⟩ := e3
  obtain ⟨ua, uac, rfl⟩ := ha.shape
  obtain ⟨ub, ubc, rfl⟩ := hbb.shape
  simp only [Nat.zero_mul, Nat.add_zero, Nat.one_mul] at c0 c1 c2 c3 d0 d1 d2 d3
  have RA := Lib.hid ha
  have RB := Lib.hid hbb
  have cl := World.block_lt_of_cell? _ _ c0
  simp only at cl
  clear hat ha hbb
  have CC := Lib.hid (fun W (hW : Below w1.heap.size w1 W) => rjoined W (D - 1) a.text b.kids _ (RB.out.below hW) hkb ha HS.out)
  generalize joinR (weave a.text (b.kids.map VL.text)) = r at *
  go_wp2_with fail
  go_region_with (first | (go_at_call 24; (with_reducible refine (CC.out _ ?_).mono ?_); (· exact below_drew (Below.refl _ _)); rintro e w2 ⟨rfl, hb⟩; replace hb := below_tr (below_drew (Below.refl w1.heap.size w1)) hb; obtain ⟨⟨r0, r1, r2, r3, r4⟩, ⟨f0, f1, f2, f3, f4⟩, rl⟩ := (GB.out.below hb).full; have B1 := Lib.hid (below_tr BB.out hb); clear hb))
  all_goals go_wp2_with fail
  all_goals exact bodyPost_ret (v := .agg #[.int .i64 r.1.kind, .int .i64 r.1.num, .string r.1.text, .slice none 0 0, .int .i64 r.2]) (by simp [results, Tryd.results8, go_sem, r0, r1, r2, r3, r4]) rfl ⟨rfl, below_set5 B1.out (Nat.le_refl _) _ _ _ _ _⟩
set_option maxHeartbeats 4000000 in
theorem rcall_range_bad (D : Nat) (v : VL) (lv : Value) (hr : RowRd w D [v] lv) (hkl : ∀ x ∈ [v], x.kids.length ≤ 1000) (hnk : ∀ x ∈ [v], x.kind ≠ 4 → x.kids = []) (hf : fitAllB [1] [v] = true) (hi : I64 v.num) (hb0 : v.num < 0 ∨ 64 < v.num) (c : Int) (hc : (if v.num < 0 then (1 : Int) else 4) = c) : Calls Tryd.prog 8 #[.string ⟨#[114, 97, 110, 103, 101]⟩, lv] w (Doc (vz, c) w) := by
  have CC0 := Lib.hid (fun W => by have h := rcount_bad W v.num hb0 hi; rw [hc] at h; exact h)
  clear hi hb0 hc
  have RR := Lib.hid (fun W (hW : Below w.heap.size w W) => by have := rright_range W D [v] lv (hr.below hW) (by simp) hkl hnk; rw [hf] at this; exact this)
  have HR := Lib.hid hr
  obtain ⟨lao, lcap, rfl⟩ := hr.shape
  clear hr hnk hf
  have B0 := Lib.hid (below_al (Below.refl w.heap.size w) (.cells #[.int .i64 0, .int .i64 0, .string ⟨#[]⟩, .slice none 0 0, .int .i64 0] 32))
  have G0 := Lib.hid (show GotB (w.alloc (.cells #[.int .i64 0, .int .i64 0, .string ⟨#[]⟩, .slice none 0 0, .int .i64 0] 32)) w.heap.size 0 0 ⟨#[]⟩ 0 from heap_alloc_new w _)
  go_enter Tryd.func8, Tryd.ntmps8
  go_wp2_with fail
  generalize w.alloc (.cells #[.int .i64 0, .int .i64 0, .string ⟨#[]⟩, .slice none 0 0, .int .i64 0] 32) = wa at *
  refine (rwants_range _).mono ?_
  rintro e w1 ⟨rfl, rfl⟩
  go_wp2_with fail
  refine (RR.out _ B0.out).mono ?_
  rintro e w1 ⟨rfl, hb1⟩
  have BB := Lib.hid (below_tr B0.out hb1)
  have GB := Lib.hid (G0.out.below hb1)
  clear hb1 RR G0 B0
  obtain ⟨ao2, cap2, e2, hat⟩ := (HR.out.below BB.out).at
  simp only [Value.slice.injEq, true_and] at e2
  obtain ⟨rfl, rfl⟩ := e2
  obtain ⟨g2, o2, lu, rfl, -, c0, c1, c2, c3, hu⟩ := hat 0 v rfl
  obtain ⟨uo, uc, rfl⟩ := hu.shape
  simp only [Nat.zero_mul, Nat.add_zero] at c0 c1 c2 c3
  have RU := Lib.hid hu
  have cl := World.block_lt_of_cell? _ _ c0
  simp only at cl
  clear hat hu
  have CC := Lib.hid (CC0.out w1)
  go_wp2_with fail
  refine CC.out.mono ?_
  rintro e w2 ⟨rfl, hb⟩
  obtain ⟨⟨r0, r1, r2, r3, r4⟩, ⟨f0, f1, f2, f3, f4⟩, rl⟩ := (GB.out.below hb).full
  have B1 := Lib.hid (below_tr BB.out hb)
  clear hb
  go_wp2_with fail
  exact bodyPost_ret (v := .agg #[.int .i64 0, .int .i64 0, .string ⟨#[]⟩, .slice none 0 0, .int .i64 c]) (by simp [results, Tryd.results8, go_sem, r0, r1, r2, r3, r4, vz, vnum, VL.kind, VL.num, VL.text]) rfl ⟨rfl, below_set5 B1.out (Nat.le_refl _) _ _ _ _ _⟩
set_option maxHeartbeats 4000000 in
theorem rcall_abs (D : Nat) (v : VL) (lv : Value) (hr : RowRd w D [v] lv) (hkl : ∀ x ∈ [v], x.kids.length ≤ 1000) (hnk : ∀ x ∈ [v], x.kind ≠ 4 → x.kids = []) (hf : fitAllB [1] [v] = true) (hi : I64 v.num) : Calls Tryd.prog 8 #[.string ⟨#[97, 98, 115]⟩, lv] w (Doc (absR v.num) w) := by
  have HI := Lib.hid hi
  have HK := Lib.hid (show v.kind = 1 by have h := hf; simp [fitAllB, fitsB, kindAt] at h; exact h)
  clear hi
  have RR := Lib.hid (fun W (hW : Below w.heap.size w W) => by have := rright_abs W D [v] lv (hr.below hW) (by simp) hkl hnk; rw [hf] at this; exact this)
  have HR := Lib.hid hr
  obtain ⟨lao, lcap, rfl⟩ := hr.shape
  clear hr hnk hf
  have B0 := Lib.hid (below_al (Below.refl w.heap.size w) (.cells #[.int .i64 0, .int .i64 0, .string ⟨#[]⟩, .slice none 0 0, .int .i64 0] 32))
  have G0 := Lib.hid (show GotB (w.alloc (.cells #[.int .i64 0, .int .i64 0, .string ⟨#[]⟩, .slice none 0 0, .int .i64 0] 32)) w.heap.size 0 0 ⟨#[]⟩ 0 from heap_alloc_new w _)
  go_enter Tryd.func8, Tryd.ntmps8
  go_wp2_with fail
  generalize w.alloc (.cells #[.int .i64 0, .int .i64 0, .string ⟨#[]⟩, .slice none 0 0, .int .i64 0] 32) = wa at *
  refine (rwants_abs _).mono ?_
  rintro e w1 ⟨rfl, rfl⟩
  go_wp2_with fail
  refine (RR.out _ B0.out).mono ?_
  rintro e w1 ⟨rfl, hb1⟩
  have BB := Lib.hid (below_tr B0.out hb1)
  have GB := Lib.hid (G0.out.below hb1)
  clear hb1 RR G0 B0
  obtain ⟨ao2, cap2, e2, hat⟩ := (HR.out.below BB.out).at
  simp only [Value.slice.injEq, true_and] at e2
  obtain ⟨rfl, rfl⟩ := e2
  obtain ⟨g2, o2, lu, rfl, -, c0, c1, c2, c3, hu⟩ := hat 0 v rfl
  obtain ⟨uo, uc, rfl⟩ := hu.shape
  simp only [Nat.zero_mul, Nat.add_zero] at c0 c1 c2 c3
  have RU := Lib.hid hu
  have cl := World.block_lt_of_cell? _ _ c0
  simp only at cl
  clear hat hu
  by_cases hneg : v.num < 0
  · have AR := Lib.hid (show absR v.num = oneR 9 v by unfold absR oneR; rw [if_pos hneg, if_neg (by omega), if_pos rfl, if_pos HK.out])
    rw [AR.out]
    have CC := Lib.hid (rone w1 9 v uo v.kids.length uc HI.out)
    generalize oneR 9 v = r at *
    go_wp2_with fail
    refine CC.out.mono ?_
    rintro e w2 ⟨rfl, hb⟩
    obtain ⟨⟨r0, r1, r2, r3, r4⟩, ⟨f0, f1, f2, f3, f4⟩, rl⟩ := (GB.out.below hb).full
    have B1 := Lib.hid (below_tr BB.out hb)
    clear hb
    go_wp2_with fail
    exact bodyPost_ret (v := .agg #[.int .i64 r.1.kind, .int .i64 r.1.num, .string r.1.text, .slice none 0 0, .int .i64 r.2]) (by simp [results, Tryd.results8, go_sem, r0, r1, r2, r3, r4, vz, vnum, VL.kind, VL.num, VL.text]) rfl (by rw [AR.out]; exact ⟨rfl, below_set5 B1.out (Nat.le_refl _) _ _ _ _ _⟩)
  · have AR := Lib.hid (show absR v.num = (vnum v.num, 0) by unfold absR; rw [if_neg hneg])
    go_wp2_with fail
    refine (rnum _ _).mono ?_
    rintro e w2 ⟨rfl, hb⟩
    obtain ⟨⟨r0, r1, r2, r3, r4⟩, ⟨f0, f1, f2, f3, f4⟩, rl⟩ := (GB.out.below hb).full
    have B1 := Lib.hid (below_tr BB.out hb)
    clear hb
    go_wp2_with fail
    exact bodyPost_ret (v := .agg #[.int .i64 1, .int .i64 v.num, .string ⟨#[]⟩, .slice none 0 0, .int .i64 0]) (by simp [results, Tryd.results8, go_sem, r0, r1, r2, r3, r4, vz, vnum, VL.kind, VL.num, VL.text]) rfl (by rw [AR.out]; exact ⟨rfl, below_set5 B1.out (Nat.le_refl _) _ _ _ _ _⟩)
end
end Go.Proofs.YtoaachefdbepiaaDoor
