/- The document's Call where the arguments are refused. -/
import Derived.Test.YtoaachefdbepiaaDoorRfB
import Derived.Test.YtoaachefdbepiaaDoorRfH
namespace Go.Proofs.YtoaachefdbepiaaDoor
open Go.RowKit
set_option linter.unusedVariables false
set_option linter.unusedSimpArgs false

section
variable (w : World)
set_option maxRecDepth 20000
set_option maxHeartbeats 4000000 in
theorem rcall_none (s : ByteArray) (hs : noName s) (lao : Option Addr) (ln lcap : Nat) : Calls Tryd.prog 8 #[.string s, .slice lao ln lcap] w (Doc (vz, 2) w) := by
  have B0 := Lib.hid (below_al (Below.refl w.heap.size w) (.cells #[.int .i64 0, .int .i64 0, .string ⟨#[]⟩, .slice none 0 0, .int .i64 0] 32))
  have G0 := Lib.hid (show GotB (w.alloc (.cells #[.int .i64 0, .int .i64 0, .string ⟨#[]⟩, .slice none 0 0, .int .i64 0] 32)) w.heap.size 0 0 ⟨#[]⟩ 0 from heap_alloc_new w _)
  go_enter Tryd.func8, Tryd.ntmps8
  go_wp2_with fail
  generalize w.alloc (.cells #[.int .i64 0, .int .i64 0, .string ⟨#[]⟩, .slice none 0 0, .int .i64 0] 32) = wa at *
  refine (rwants_none _ s hs).mono ?_
  rintro e w1 ⟨rfl, rfl⟩
  clear hs
  have BB := B0
  have GB := G0
  go_wp2_with fail
  refine (rbad _ _).mono ?_
  rintro e w2 ⟨rfl, hb⟩
  obtain ⟨⟨r0, r1, r2, r3, r4⟩, ⟨f0, f1, f2, f3, f4⟩, rl⟩ := (GB.out.below hb).full
  have B1 := Lib.hid (below_tr BB.out hb)
  clear hb
  go_wp2_with fail
  exact bodyPost_ret (v := .agg #[.int .i64 0, .int .i64 0, .string ⟨#[]⟩, .slice none 0 0, .int .i64 2]) (by simp [results, Tryd.results8, go_sem, r0, r1, r2, r3, r4, vz, VL.kind, VL.num, VL.text]) rfl ⟨rfl, below_set5 B1.out (Nat.le_refl _) _ _ _ _ _⟩
set_option maxHeartbeats 4000000 in
theorem rcall_arg_min (l : List VL) (lao : Option Addr) (lcap : Nat) (hn : l.length ≤ 1000) (h : checkR [1] true l = 1) : Calls Tryd.prog 8 #[.string ⟨#[109, 105, 110]⟩, .slice lao l.length lcap] w (Doc (vz, 1) w) := by
  have hc : l.length < 1 := by
    unfold checkR at h
    split at h
    · rename_i h1; simpa using h1
    · split at h
      · cases h
      · cases h
  clear h
  generalize l.length = n at *
  have h1 : (n : Int) < 1 := by omega
  clear hc
  have B0 := Lib.hid (below_al (Below.refl w.heap.size w) (.cells #[.int .i64 0, .int .i64 0, .string ⟨#[]⟩, .slice none 0 0, .int .i64 0] 32))
  have G0 := Lib.hid (show GotB (w.alloc (.cells #[.int .i64 0, .int .i64 0, .string ⟨#[]⟩, .slice none 0 0, .int .i64 0] 32)) w.heap.size 0 0 ⟨#[]⟩ 0 from heap_alloc_new w _)
  go_enter Tryd.func8, Tryd.ntmps8
  go_wp2_with fail
  generalize w.alloc (.cells #[.int .i64 0, .int .i64 0, .string ⟨#[]⟩, .slice none 0 0, .int .i64 0] 32) = wa at *
  refine (rwants_min _).mono ?_
  rintro e w1 ⟨rfl, rfl⟩
  have BB := B0
  have GB := G0
  go_wp2_with fail
  refine (rbad _ _).mono ?_
  rintro e w2 ⟨rfl, hb⟩
  obtain ⟨⟨r0, r1, r2, r3, r4⟩, ⟨f0, f1, f2, f3, f4⟩, rl⟩ := (GB.out.below hb).full
  have B1 := Lib.hid (below_tr BB.out hb)
  clear hb
  go_wp2_with fail
  exact bodyPost_ret (v := .agg #[.int .i64 0, .int .i64 0, .string ⟨#[]⟩, .slice none 0 0, .int .i64 1]) (by simp [results, Tryd.results8, go_sem, r0, r1, r2, r3, r4, vz, VL.kind, VL.num, VL.text]) rfl ⟨rfl, below_set5 B1.out (Nat.le_refl _) _ _ _ _ _⟩
set_option maxHeartbeats 4000000 in
theorem rcall_type_min (D : Nat) (l : List VL) (lv : Value) (hr : RowRd w D l lv) (hn : l.length ≤ 1000) (hkl : ∀ v ∈ l, v.kids.length ≤ 1000) (hnk : ∀ v ∈ l, v.kind ≠ 4 → v.kids = []) (hlo : 1 ≤ l.length) (h : fitAllB [1] l = false) : Calls Tryd.prog 8 #[.string ⟨#[109, 105, 110]⟩, lv] w (Doc (vz, 7) w) := by
  have RR := Lib.hid (fun W (hW : Below w.heap.size w W) => by have := rright_min W D l lv (hr.below hW) hn hkl hnk; rw [h] at this; exact this)
  obtain ⟨lao, lcap, rfl⟩ := hr.shape
  clear hr hkl hnk h
  generalize l.length = n at *
  have h1 : ¬ (n : Int) < 1 := by omega
  have h2 : ¬ (1073741824 : Int) < (n : Int) := by omega
  clear hlo
  have B0 := Lib.hid (below_al (Below.refl w.heap.size w) (.cells #[.int .i64 0, .int .i64 0, .string ⟨#[]⟩, .slice none 0 0, .int .i64 0] 32))
  have G0 := Lib.hid (show GotB (w.alloc (.cells #[.int .i64 0, .int .i64 0, .string ⟨#[]⟩, .slice none 0 0, .int .i64 0] 32)) w.heap.size 0 0 ⟨#[]⟩ 0 from heap_alloc_new w _)
  go_enter Tryd.func8, Tryd.ntmps8
  go_wp2_with fail
  generalize w.alloc (.cells #[.int .i64 0, .int .i64 0, .string ⟨#[]⟩, .slice none 0 0, .int .i64 0] 32) = wa at *
  refine (rwants_min _).mono ?_
  rintro e w1 ⟨rfl, rfl⟩
  go_wp2_with fail
  refine (RR.out _ B0.out).mono ?_
  rintro e w1 ⟨rfl, hb1⟩
  have BB := Lib.hid (below_tr B0.out hb1)
  have GB := Lib.hid (G0.out.below hb1)
  clear hb1
  go_wp2_with fail
  refine (rbad _ _).mono ?_
  rintro e w2 ⟨rfl, hb⟩
  obtain ⟨⟨r0, r1, r2, r3, r4⟩, ⟨f0, f1, f2, f3, f4⟩, rl⟩ := (GB.out.below hb).full
  have B1 := Lib.hid (below_tr BB.out hb)
  clear hb
  go_wp2_with fail
  exact bodyPost_ret (v := .agg #[.int .i64 0, .int .i64 0, .string ⟨#[]⟩, .slice none 0 0, .int .i64 7]) (by simp [results, Tryd.results8, go_sem, r0, r1, r2, r3, r4, vz, VL.kind, VL.num, VL.text]) rfl ⟨rfl, below_set5 B1.out (Nat.le_refl _) _ _ _ _ _⟩
set_option maxHeartbeats 4000000 in
theorem rcall_arg_max (l : List VL) (lao : Option Addr) (lcap : Nat) (hn : l.length ≤ 1000) (h : checkR [1] true l = 1) : Calls Tryd.prog 8 #[.string ⟨#[109, 97, 120]⟩, .slice lao l.length lcap] w (Doc (vz, 1) w) := by
  have hc : l.length < 1 := by
    unfold checkR at h
    split at h
    · rename_i h1; simpa using h1
    · split at h
      · cases h
      · cases h
  clear h
  generalize l.length = n at *
  have h1 : (n : Int) < 1 := by omega
  clear hc
  have B0 := Lib.hid (below_al (Below.refl w.heap.size w) (.cells #[.int .i64 0, .int .i64 0, .string ⟨#[]⟩, .slice none 0 0, .int .i64 0] 32))
  have G0 := Lib.hid (show GotB (w.alloc (.cells #[.int .i64 0, .int .i64 0, .string ⟨#[]⟩, .slice none 0 0, .int .i64 0] 32)) w.heap.size 0 0 ⟨#[]⟩ 0 from heap_alloc_new w _)
  go_enter Tryd.func8, Tryd.ntmps8
  go_wp2_with fail
  generalize w.alloc (.cells #[.int .i64 0, .int .i64 0, .string ⟨#[]⟩, .slice none 0 0, .int .i64 0] 32) = wa at *
  refine (rwants_max _).mono ?_
  rintro e w1 ⟨rfl, rfl⟩
  have BB := B0
  have GB := G0
  go_wp2_with fail
  refine (rbad _ _).mono ?_
  rintro e w2 ⟨rfl, hb⟩
  obtain ⟨⟨r0, r1, r2, r3, r4⟩, ⟨f0, f1, f2, f3, f4⟩, rl⟩ := (GB.out.below hb).full
  have B1 := Lib.hid (below_tr BB.out hb)
  clear hb
  go_wp2_with fail
  exact bodyPost_ret (v := .agg #[.int .i64 0, .int .i64 0, .string ⟨#[]⟩, .slice none 0 0, .int .i64 1]) (by simp [results, Tryd.results8, go_sem, r0, r1, r2, r3, r4, vz, VL.kind, VL.num, VL.text]) rfl ⟨rfl, below_set5 B1.out (Nat.le_refl _) _ _ _ _ _⟩
set_option maxHeartbeats 4000000 in
theorem rcall_type_max (D : Nat) (l : List VL) (lv : Value) (hr : RowRd w D l lv) (hn : l.length ≤ 1000) (hkl : ∀ v ∈ l, v.kids.length ≤ 1000) (hnk : ∀ v ∈ l, v.kind ≠ 4 → v.kids = []) (hlo : 1 ≤ l.length) (h : fitAllB [1] l = false) : Calls Tryd.prog 8 #[.string ⟨#[109, 97, 120]⟩, lv] w (Doc (vz, 7) w) := by
  have RR := Lib.hid (fun W (hW : Below w.heap.size w W) => by have := rright_max W D l lv (hr.below hW) hn hkl hnk; rw [h] at this; exact this)
  obtain ⟨lao, lcap, rfl⟩ := hr.shape
  clear hr hkl hnk h
  generalize l.length = n at *
  have h1 : ¬ (n : Int) < 1 := by omega
  have h2 : ¬ (1073741824 : Int) < (n : Int) := by omega
  clear hlo
  have B0 := Lib.hid (below_al (Below.refl w.heap.size w) (.cells #[.int .i64 0, .int .i64 0, .string ⟨#[]⟩, .slice none 0 0, .int .i64 0] 32))
  have G0 := Lib.hid (show GotB (w.alloc (.cells #[.int .i64 0, .int .i64 0, .string ⟨#[]⟩, .slice none 0 0, .int .i64 0] 32)) w.heap.size 0 0 ⟨#[]⟩ 0 from heap_alloc_new w _)
  go_enter Tryd.func8, Tryd.ntmps8
  go_wp2_with fail
  generalize w.alloc (.cells #[.int .i64 0, .int .i64 0, .string ⟨#[]⟩, .slice none 0 0, .int .i64 0] 32) = wa at *
  refine (rwants_max _).mono ?_
  rintro e w1 ⟨rfl, rfl⟩
  go_wp2_with fail
  refine (RR.out _ B0.out).mono ?_
  rintro e w1 ⟨rfl, hb1⟩
  have BB := Lib.hid (below_tr B0.out hb1)
  have GB := Lib.hid (G0.out.below hb1)
  clear hb1
  go_wp2_with fail
  refine (rbad _ _).mono ?_
  rintro e w2 ⟨rfl, hb⟩
  obtain ⟨⟨r0, r1, r2, r3, r4⟩, ⟨f0, f1, f2, f3, f4⟩, rl⟩ := (GB.out.below hb).full
  have B1 := Lib.hid (below_tr BB.out hb)
  clear hb
  go_wp2_with fail
  exact bodyPost_ret (v := .agg #[.int .i64 0, .int .i64 0, .string ⟨#[]⟩, .slice none 0 0, .int .i64 7]) (by simp [results, Tryd.results8, go_sem, r0, r1, r2, r3, r4, vz, VL.kind, VL.num, VL.text]) rfl ⟨rfl, below_set5 B1.out (Nat.le_refl _) _ _ _ _ _⟩
set_option maxHeartbeats 4000000 in
theorem rcall_arg_sum (l : List VL) (lao : Option Addr) (lcap : Nat) (hn : l.length ≤ 1000) (h : checkR [4] false l = 1) : Calls Tryd.prog 8 #[.string ⟨#[115, 117, 109]⟩, .slice lao l.length lcap] w (Doc (vz, 1) w) := by
  have hc : l.length < 1 ∨ 1 < l.length := by
    unfold checkR at h
    split at h
    · rename_i h1; simpa using h1
    · split at h
      · cases h
      · cases h
  clear h
  generalize l.length = n at *
  by_cases h0 : n < 1
  · have h1 : (n : Int) < 1 := by omega
    clear hc
    have B0 := Lib.hid (below_al (Below.refl w.heap.size w) (.cells #[.int .i64 0, .int .i64 0, .string ⟨#[]⟩, .slice none 0 0, .int .i64 0] 32))
    have G0 := Lib.hid (show GotB (w.alloc (.cells #[.int .i64 0, .int .i64 0, .string ⟨#[]⟩, .slice none 0 0, .int .i64 0] 32)) w.heap.size 0 0 ⟨#[]⟩ 0 from heap_alloc_new w _)
    go_enter Tryd.func8, Tryd.ntmps8
    go_wp2_with fail
    generalize w.alloc (.cells #[.int .i64 0, .int .i64 0, .string ⟨#[]⟩, .slice none 0 0, .int .i64 0] 32) = wa at *
    refine (rwants_sum _).mono ?_
    rintro e w1 ⟨rfl, rfl⟩
    have BB := B0
    have GB := G0
    go_wp2_with fail
    refine (rbad _ _).mono ?_
    rintro e w2 ⟨rfl, hb⟩
    obtain ⟨⟨r0, r1, r2, r3, r4⟩, ⟨f0, f1, f2, f3, f4⟩, rl⟩ := (GB.out.below hb).full
    have B1 := Lib.hid (below_tr BB.out hb)
    clear hb
    go_wp2_with fail
    exact bodyPost_ret (v := .agg #[.int .i64 0, .int .i64 0, .string ⟨#[]⟩, .slice none 0 0, .int .i64 1]) (by simp [results, Tryd.results8, go_sem, r0, r1, r2, r3, r4, vz, VL.kind, VL.num, VL.text]) rfl ⟨rfl, below_set5 B1.out (Nat.le_refl _) _ _ _ _ _⟩
  · have h1 : ¬ (n : Int) < 1 := by omega
    have h2 : (1 : Int) < (n : Int) := by omega
    clear hc h0
    have B0 := Lib.hid (below_al (Below.refl w.heap.size w) (.cells #[.int .i64 0, .int .i64 0, .string ⟨#[]⟩, .slice none 0 0, .int .i64 0] 32))
    have G0 := Lib.hid (show GotB (w.alloc (.cells #[.int .i64 0, .int .i64 0, .string ⟨#[]⟩, .slice none 0 0, .int .i64 0] 32)) w.heap.size 0 0 ⟨#[]⟩ 0 from heap_alloc_new w _)
    go_enter Tryd.func8, Tryd.ntmps8
    go_wp2_with fail
    generalize w.alloc (.cells #[.int .i64 0, .int .i64 0, .string ⟨#[]⟩, .slice none 0 0, .int .i64 0] 32) = wa at *
    refine (rwants_sum _).mono ?_
    rintro e w1 ⟨rfl, rfl⟩
    have BB := B0
    have GB := G0
    go_wp2_with fail
    refine (rbad _ _).mono ?_
    rintro e w2 ⟨rfl, hb⟩
    obtain ⟨⟨r0, r1, r2, r3, r4⟩, ⟨f0, f1, f2, f3, f4⟩, rl⟩ := (GB.out.below hb).full
    have B1 := Lib.hid (below_tr BB.out hb)
    clear hb
    go_wp2_with fail
    exact bodyPost_ret (v := .agg #[.int .i64 0, .int .i64 0, .string ⟨#[]⟩, .slice none 0 0, .int .i64 1]) (by simp [results, Tryd.results8, go_sem, r0, r1, r2, r3, r4, vz, VL.kind, VL.num, VL.text]) rfl ⟨rfl, below_set5 B1.out (Nat.le_refl _) _ _ _ _ _⟩
set_option maxHeartbeats 4000000 in
theorem rcall_type_sum (D : Nat) (l : List VL) (lv : Value) (hr : RowRd w D l lv) (hn : l.length ≤ 1000) (hkl : ∀ v ∈ l, v.kids.length ≤ 1000) (hnk : ∀ v ∈ l, v.kind ≠ 4 → v.kids = []) (hlo : 1 ≤ l.length ∧ l.length ≤ 1) (h : fitAllB [4] l = false) : Calls Tryd.prog 8 #[.string ⟨#[115, 117, 109]⟩, lv] w (Doc (vz, 7) w) := by
  have RR := Lib.hid (fun W (hW : Below w.heap.size w W) => by have := rright_sum W D l lv (hr.below hW) hn hkl hnk; rw [h] at this; exact this)
  obtain ⟨lao, lcap, rfl⟩ := hr.shape
  clear hr hkl hnk h
  generalize l.length = n at *
  have h1 : ¬ (n : Int) < 1 := by omega
  have h2 : ¬ (1 : Int) < (n : Int) := by omega
  clear hlo
  have B0 := Lib.hid (below_al (Below.refl w.heap.size w) (.cells #[.int .i64 0, .int .i64 0, .string ⟨#[]⟩, .slice none 0 0, .int .i64 0] 32))
  have G0 := Lib.hid (show GotB (w.alloc (.cells #[.int .i64 0, .int .i64 0, .string ⟨#[]⟩, .slice none 0 0, .int .i64 0] 32)) w.heap.size 0 0 ⟨#[]⟩ 0 from heap_alloc_new w _)
  go_enter Tryd.func8, Tryd.ntmps8
  go_wp2_with fail
  generalize w.alloc (.cells #[.int .i64 0, .int .i64 0, .string ⟨#[]⟩, .slice none 0 0, .int .i64 0] 32) = wa at *
  refine (rwants_sum _).mono ?_
  rintro e w1 ⟨rfl, rfl⟩
  go_wp2_with fail
  refine (RR.out _ B0.out).mono ?_
  rintro e w1 ⟨rfl, hb1⟩
  have BB := Lib.hid (below_tr B0.out hb1)
  have GB := Lib.hid (G0.out.below hb1)
  clear hb1
  go_wp2_with fail
  refine (rbad _ _).mono ?_
  rintro e w2 ⟨rfl, hb⟩
  obtain ⟨⟨r0, r1, r2, r3, r4⟩, ⟨f0, f1, f2, f3, f4⟩, rl⟩ := (GB.out.below hb).full
  have B1 := Lib.hid (below_tr BB.out hb)
  clear hb
  go_wp2_with fail
  exact bodyPost_ret (v := .agg #[.int .i64 0, .int .i64 0, .string ⟨#[]⟩, .slice none 0 0, .int .i64 7]) (by simp [results, Tryd.results8, go_sem, r0, r1, r2, r3, r4, vz, VL.kind, VL.num, VL.text]) rfl ⟨rfl, below_set5 B1.out (Nat.le_refl _) _ _ _ _ _⟩
set_option maxHeartbeats 4000000 in
theorem rcall_arg_len (l : List VL) (lao : Option Addr) (lcap : Nat) (hn : l.length ≤ 1000) (h : checkR [6] false l = 1) : Calls Tryd.prog 8 #[.string ⟨#[108, 101, 110]⟩, .slice lao l.length lcap] w (Doc (vz, 1) w) := by
  have hc : l.length < 1 ∨ 1 < l.length := by
    unfold checkR at h
    split at h
    · rename_i h1; simpa using h1
    · split at h
      · cases h
      · cases h
  clear h
  generalize l.length = n at *
  by_cases h0 : n < 1
  · have h1 : (n : Int) < 1 := by omega
    clear hc
    have B0 := Lib.hid (below_al (Below.refl w.heap.size w) (.cells #[.int .i64 0, .int .i64 0, .string ⟨#[]⟩, .slice none 0 0, .int .i64 0] 32))
    have G0 := Lib.hid (show GotB (w.alloc (.cells #[.int .i64 0, .int .i64 0, .string ⟨#[]⟩, .slice none 0 0, .int .i64 0] 32)) w.heap.size 0 0 ⟨#[]⟩ 0 from heap_alloc_new w _)
    go_enter Tryd.func8, Tryd.ntmps8
    go_wp2_with fail
    generalize w.alloc (.cells #[.int .i64 0, .int .i64 0, .string ⟨#[]⟩, .slice none 0 0, .int .i64 0] 32) = wa at *
    refine (rwants_len _).mono ?_
    rintro e w1 ⟨rfl, rfl⟩
    have BB := B0
    have GB := G0
    go_wp2_with fail
    refine (rbad _ _).mono ?_
    rintro e w2 ⟨rfl, hb⟩
    obtain ⟨⟨r0, r1, r2, r3, r4⟩, ⟨f0, f1, f2, f3, f4⟩, rl⟩ := (GB.out.below hb).full
    have B1 := Lib.hid (below_tr BB.out hb)
    clear hb
    go_wp2_with fail
    exact bodyPost_ret (v := .agg #[.int .i64 0, .int .i64 0, .string ⟨#[]⟩, .slice none 0 0, .int .i64 1]) (by simp [results, Tryd.results8, go_sem, r0, r1, r2, r3, r4, vz, VL.kind, VL.num, VL.text]) rfl ⟨rfl, below_set5 B1.out (Nat.le_refl _) _ _ _ _ _⟩
  · have h1 : ¬ (n : Int) < 1 := by omega
    have h2 : (1 : Int) < (n : Int) := by omega
    clear hc h0
    have B0 := Lib.hid (below_al (Below.refl w.heap.size w) (.cells #[.int .i64 0, .int .i64 0, .string ⟨#[]⟩, .slice none 0 0, .int .i64 0] 32))
    have G0 := Lib.hid (show GotB (w.alloc (.cells #[.int .i64 0, .int .i64 0, .string ⟨#[]⟩, .slice none 0 0, .int .i64 0] 32)) w.heap.size 0 0 ⟨#[]⟩ 0 from heap_alloc_new w _)
    go_enter Tryd.func8, Tryd.ntmps8
    go_wp2_with fail
    generalize w.alloc (.cells #[.int .i64 0, .int .i64 0, .string ⟨#[]⟩, .slice none 0 0, .int .i64 0] 32) = wa at *
    refine (rwants_len _).mono ?_
    rintro e w1 ⟨rfl, rfl⟩
    have BB := B0
    have GB := G0
    go_wp2_with fail
    refine (rbad _ _).mono ?_
    rintro e w2 ⟨rfl, hb⟩
    obtain ⟨⟨r0, r1, r2, r3, r4⟩, ⟨f0, f1, f2, f3, f4⟩, rl⟩ := (GB.out.below hb).full
    have B1 := Lib.hid (below_tr BB.out hb)
    clear hb
    go_wp2_with fail
    exact bodyPost_ret (v := .agg #[.int .i64 0, .int .i64 0, .string ⟨#[]⟩, .slice none 0 0, .int .i64 1]) (by simp [results, Tryd.results8, go_sem, r0, r1, r2, r3, r4, vz, VL.kind, VL.num, VL.text]) rfl ⟨rfl, below_set5 B1.out (Nat.le_refl _) _ _ _ _ _⟩
set_option maxHeartbeats 4000000 in
theorem rcall_type_len (D : Nat) (l : List VL) (lv : Value) (hr : RowRd w D l lv) (hn : l.length ≤ 1000) (hkl : ∀ v ∈ l, v.kids.length ≤ 1000) (hnk : ∀ v ∈ l, v.kind ≠ 4 → v.kids = []) (hlo : 1 ≤ l.length ∧ l.length ≤ 1) (h : fitAllB [6] l = false) : Calls Tryd.prog 8 #[.string ⟨#[108, 101, 110]⟩, lv] w (Doc (vz, 7) w) := by
  have RR := Lib.hid (fun W (hW : Below w.heap.size w W) => by have := rright_len W D l lv (hr.below hW) hn hkl hnk; rw [h] at this; exact this)
  obtain ⟨lao, lcap, rfl⟩ := hr.shape
  clear hr hkl hnk h
  generalize l.length = n at *
  have h1 : ¬ (n : Int) < 1 := by omega
  have h2 : ¬ (1 : Int) < (n : Int) := by omega
  clear hlo
  have B0 := Lib.hid (below_al (Below.refl w.heap.size w) (.cells #[.int .i64 0, .int .i64 0, .string ⟨#[]⟩, .slice none 0 0, .int .i64 0] 32))
  have G0 := Lib.hid (show GotB (w.alloc (.cells #[.int .i64 0, .int .i64 0, .string ⟨#[]⟩, .slice none 0 0, .int .i64 0] 32)) w.heap.size 0 0 ⟨#[]⟩ 0 from heap_alloc_new w _)
  go_enter Tryd.func8, Tryd.ntmps8
  go_wp2_with fail
  generalize w.alloc (.cells #[.int .i64 0, .int .i64 0, .string ⟨#[]⟩, .slice none 0 0, .int .i64 0] 32) = wa at *
  refine (rwants_len _).mono ?_
  rintro e w1 ⟨rfl, rfl⟩
  go_wp2_with fail
  refine (RR.out _ B0.out).mono ?_
  rintro e w1 ⟨rfl, hb1⟩
  have BB := Lib.hid (below_tr B0.out hb1)
  have GB := Lib.hid (G0.out.below hb1)
  clear hb1
  go_wp2_with fail
  refine (rbad _ _).mono ?_
  rintro e w2 ⟨rfl, hb⟩
  obtain ⟨⟨r0, r1, r2, r3, r4⟩, ⟨f0, f1, f2, f3, f4⟩, rl⟩ := (GB.out.below hb).full
  have B1 := Lib.hid (below_tr BB.out hb)
  clear hb
  go_wp2_with fail
  exact bodyPost_ret (v := .agg #[.int .i64 0, .int .i64 0, .string ⟨#[]⟩, .slice none 0 0, .int .i64 7]) (by simp [results, Tryd.results8, go_sem, r0, r1, r2, r3, r4, vz, VL.kind, VL.num, VL.text]) rfl ⟨rfl, below_set5 B1.out (Nat.le_refl _) _ _ _ _ _⟩
set_option maxHeartbeats 4000000 in
theorem rcall_arg_concat (l : List VL) (lao : Option Addr) (lcap : Nat) (hn : l.length ≤ 1000) (h : checkR [3] true l = 1) : Calls Tryd.prog 8 #[.string ⟨#[99, 111, 110, 99, 97, 116]⟩, .slice lao l.length lcap] w (Doc (vz, 1) w) := by
  have hc : l.length < 1 := by
    unfold checkR at h
    split at h
    · rename_i h1; simpa using h1
    · split at h
      · cases h
      · cases h
  clear h
  generalize l.length = n at *
  have h1 : (n : Int) < 1 := by omega
  clear hc
  have B0 := Lib.hid (below_al (Below.refl w.heap.size w) (.cells #[.int .i64 0, .int .i64 0, .string ⟨#[]⟩, .slice none 0 0, .int .i64 0] 32))
  have G0 := Lib.hid (show GotB (w.alloc (.cells #[.int .i64 0, .int .i64 0, .string ⟨#[]⟩, .slice none 0 0, .int .i64 0] 32)) w.heap.size 0 0 ⟨#[]⟩ 0 from heap_alloc_new w _)
  go_enter Tryd.func8, Tryd.ntmps8
  go_wp2_with fail
  generalize w.alloc (.cells #[.int .i64 0, .int .i64 0, .string ⟨#[]⟩, .slice none 0 0, .int .i64 0] 32) = wa at *
  refine (rwants_concat _).mono ?_
  rintro e w1 ⟨rfl, rfl⟩
  have BB := B0
  have GB := G0
  go_wp2_with fail
  refine (rbad _ _).mono ?_
  rintro e w2 ⟨rfl, hb⟩
  obtain ⟨⟨r0, r1, r2, r3, r4⟩, ⟨f0, f1, f2, f3, f4⟩, rl⟩ := (GB.out.below hb).full
  have B1 := Lib.hid (below_tr BB.out hb)
  clear hb
  go_wp2_with fail
  exact bodyPost_ret (v := .agg #[.int .i64 0, .int .i64 0, .string ⟨#[]⟩, .slice none 0 0, .int .i64 1]) (by simp [results, Tryd.results8, go_sem, r0, r1, r2, r3, r4, vz, VL.kind, VL.num, VL.text]) rfl ⟨rfl, below_set5 B1.out (Nat.le_refl _) _ _ _ _ _⟩
set_option maxHeartbeats 4000000 in
theorem rcall_type_concat (D : Nat) (l : List VL) (lv : Value) (hr : RowRd w D l lv) (hn : l.length ≤ 1000) (hkl : ∀ v ∈ l, v.kids.length ≤ 1000) (hnk : ∀ v ∈ l, v.kind ≠ 4 → v.kids = []) (hlo : 1 ≤ l.length) (h : fitAllB [3] l = false) : Calls Tryd.prog 8 #[.string ⟨#[99, 111, 110, 99, 97, 116]⟩, lv] w (Doc (vz, 7) w) := by
  have RR := Lib.hid (fun W (hW : Below w.heap.size w W) => by have := rright_concat W D l lv (hr.below hW) hn hkl hnk; rw [h] at this; exact this)
  obtain ⟨lao, lcap, rfl⟩ := hr.shape
  clear hr hkl hnk h
  generalize l.length = n at *
  have h1 : ¬ (n : Int) < 1 := by omega
  have h2 : ¬ (1073741824 : Int) < (n : Int) := by omega
  clear hlo
  have B0 := Lib.hid (below_al (Below.refl w.heap.size w) (.cells #[.int .i64 0, .int .i64 0, .string ⟨#[]⟩, .slice none 0 0, .int .i64 0] 32))
  have G0 := Lib.hid (show GotB (w.alloc (.cells #[.int .i64 0, .int .i64 0, .string ⟨#[]⟩, .slice none 0 0, .int .i64 0] 32)) w.heap.size 0 0 ⟨#[]⟩ 0 from heap_alloc_new w _)
  go_enter Tryd.func8, Tryd.ntmps8
  go_wp2_with fail
  generalize w.alloc (.cells #[.int .i64 0, .int .i64 0, .string ⟨#[]⟩, .slice none 0 0, .int .i64 0] 32) = wa at *
  refine (rwants_concat _).mono ?_
  rintro e w1 ⟨rfl, rfl⟩
  go_wp2_with fail
  refine (RR.out _ B0.out).mono ?_
  rintro e w1 ⟨rfl, hb1⟩
  have BB := Lib.hid (below_tr B0.out hb1)
  have GB := Lib.hid (G0.out.below hb1)
  clear hb1
  go_wp2_with fail
  refine (rbad _ _).mono ?_
  rintro e w2 ⟨rfl, hb⟩
  obtain ⟨⟨r0, r1, r2, r3, r4⟩, ⟨f0, f1, f2, f3, f4⟩, rl⟩ := (GB.out.below hb).full
  have B1 := Lib.hid (below_tr BB.out hb)
  clear hb
  go_wp2_with fail
  exact bodyPost_ret (v := .agg #[.int .i64 0, .int .i64 0, .string ⟨#[]⟩, .slice none 0 0, .int .i64 7]) (by simp [results, Tryd.results8, go_sem, r0, r1, r2, r3, r4, vz, VL.kind, VL.num, VL.text]) rfl ⟨rfl, below_set5 B1.out (Nat.le_refl _) _ _ _ _ _⟩
set_option maxHeartbeats 4000000 in
theorem rcall_arg_join (l : List VL) (lao : Option Addr) (lcap : Nat) (hn : l.length ≤ 1000) (h : checkR [2, 5] false l = 1) : Calls Tryd.prog 8 #[.string ⟨#[106, 111, 105, 110]⟩, .slice lao l.length lcap] w (Doc (vz, 1) w) := by
  have hc : l.length < 2 ∨ 2 < l.length := by
    unfold checkR at h
    split at h
    · rename_i h1; simpa using h1
    · split at h
      · cases h
      · cases h
  clear h
  generalize l.length = n at *
  by_cases h0 : n < 2
  · have h1 : (n : Int) < 2 := by omega
    clear hc
    have B0 := Lib.hid (below_al (Below.refl w.heap.size w) (.cells #[.int .i64 0, .int .i64 0, .string ⟨#[]⟩, .slice none 0 0, .int .i64 0] 32))
    have G0 := Lib.hid (show GotB (w.alloc (.cells #[.int .i64 0, .int .i64 0, .string ⟨#[]⟩, .slice none 0 0, .int .i64 0] 32)) w.heap.size 0 0 ⟨#[]⟩ 0 from heap_alloc_new w _)
    go_enter Tryd.func8, Tryd.ntmps8
    go_wp2_with fail
    generalize w.alloc (.cells #[.int .i64 0, .int .i64 0, .string ⟨#[]⟩, .slice none 0 0, .int .i64 0] 32) = wa at *
    refine (rwants_join _).mono ?_
    rintro e w1 ⟨rfl, rfl⟩
    have BB := B0
    have GB := G0
    go_wp2_with fail
    refine (rbad _ _).mono ?_
    rintro e w2 ⟨rfl, hb⟩
    obtain ⟨⟨r0, r1, r2, r3, r4⟩, ⟨f0, f1, f2, f3, f4⟩, rl⟩ := (GB.out.below hb).full
    have B1 := Lib.hid (below_tr BB.out hb)
    clear hb
    go_wp2_with fail
    exact bodyPost_ret (v := .agg #[.int .i64 0, .int .i64 0, .string ⟨#[]⟩, .slice none 0 0, .int .i64 1]) (by simp [results, Tryd.results8, go_sem, r0, r1, r2, r3, r4, vz, VL.kind, VL.num, VL.text]) rfl ⟨rfl, below_set5 B1.out (Nat.le_refl _) _ _ _ _ _⟩
  · have h1 : ¬ (n : Int) < 2 := by omega
    have h2 : (2 : Int) < (n : Int) := by omega
    clear hc h0
    have B0 := Lib.hid (below_al (Below.refl w.heap.size w) (.cells #[.int .i64 0, .int .i64 0, .string ⟨#[]⟩, .slice none 0 0, .int .i64 0] 32))
    have G0 := Lib.hid (show GotB (w.alloc (.cells #[.int .i64 0, .int .i64 0, .string ⟨#[]⟩, .slice none 0 0, .int .i64 0] 32)) w.heap.size 0 0 ⟨#[]⟩ 0 from heap_alloc_new w _)
    go_enter Tryd.func8, Tryd.ntmps8
    go_wp2_with fail
    generalize w.alloc (.cells #[.int .i64 0, .int .i64 0, .string ⟨#[]⟩, .slice none 0 0, .int .i64 0] 32) = wa at *
    refine (rwants_join _).mono ?_
    rintro e w1 ⟨rfl, rfl⟩
    have BB := B0
    have GB := G0
    go_wp2_with fail
    refine (rbad _ _).mono ?_
    rintro e w2 ⟨rfl, hb⟩
    obtain ⟨⟨r0, r1, r2, r3, r4⟩, ⟨f0, f1, f2, f3, f4⟩, rl⟩ := (GB.out.below hb).full
    have B1 := Lib.hid (below_tr BB.out hb)
    clear hb
    go_wp2_with fail
    exact bodyPost_ret (v := .agg #[.int .i64 0, .int .i64 0, .string ⟨#[]⟩, .slice none 0 0, .int .i64 1]) (by simp [results, Tryd.results8, go_sem, r0, r1, r2, r3, r4, vz, VL.kind, VL.num, VL.text]) rfl ⟨rfl, below_set5 B1.out (Nat.le_refl _) _ _ _ _ _⟩
set_option maxHeartbeats 4000000 in
theorem rcall_type_join (D : Nat) (l : List VL) (lv : Value) (hr : RowRd w D l lv) (hn : l.length ≤ 1000) (hkl : ∀ v ∈ l, v.kids.length ≤ 1000) (hnk : ∀ v ∈ l, v.kind ≠ 4 → v.kids = []) (hlo : 2 ≤ l.length ∧ l.length ≤ 2) (h : fitAllB [2, 5] l = false) : Calls Tryd.prog 8 #[.string ⟨#[106, 111, 105, 110]⟩, lv] w (Doc (vz, 7) w) := by
  have RR := Lib.hid (fun W (hW : Below w.heap.size w W) => by have := rright_join W D l lv (hr.below hW) hn hlo.2 hkl hnk; rw [h] at this; exact this)
  obtain ⟨lao, lcap, rfl⟩ := hr.shape
  clear hr hkl hnk h
  generalize l.length = n at *
  have h1 : ¬ (n : Int) < 2 := by omega
  have h2 : ¬ (2 : Int) < (n : Int) := by omega
  clear hlo
  have B0 := Lib.hid (below_al (Below.refl w.heap.size w) (.cells #[.int .i64 0, .int .i64 0, .string ⟨#[]⟩, .slice none 0 0, .int .i64 0] 32))
  have G0 := Lib.hid (show GotB (w.alloc (.cells #[.int .i64 0, .int .i64 0, .string ⟨#[]⟩, .slice none 0 0, .int .i64 0] 32)) w.heap.size 0 0 ⟨#[]⟩ 0 from heap_alloc_new w _)
  go_enter Tryd.func8, Tryd.ntmps8
  go_wp2_with fail
  generalize w.alloc (.cells #[.int .i64 0, .int .i64 0, .string ⟨#[]⟩, .slice none 0 0, .int .i64 0] 32) = wa at *
  refine (rwants_join _).mono ?_
  rintro e w1 ⟨rfl, rfl⟩
  go_wp2_with fail
  refine (RR.out _ B0.out).mono ?_
  rintro e w1 ⟨rfl, hb1⟩
  have BB := Lib.hid (below_tr B0.out hb1)
  have GB := Lib.hid (G0.out.below hb1)
  clear hb1
  go_wp2_with fail
  refine (rbad _ _).mono ?_
  rintro e w2 ⟨rfl, hb⟩
  obtain ⟨⟨r0, r1, r2, r3, r4⟩, ⟨f0, f1, f2, f3, f4⟩, rl⟩ := (GB.out.below hb).full
  have B1 := Lib.hid (below_tr BB.out hb)
  clear hb
  go_wp2_with fail
  exact bodyPost_ret (v := .agg #[.int .i64 0, .int .i64 0, .string ⟨#[]⟩, .slice none 0 0, .int .i64 7]) (by simp [results, Tryd.results8, go_sem, r0, r1, r2, r3, r4, vz, VL.kind, VL.num, VL.text]) rfl ⟨rfl, below_set5 B1.out (Nat.le_refl _) _ _ _ _ _⟩
set_option maxHeartbeats 4000000 in
theorem rcall_arg_range (l : List VL) (lao : Option Addr) (lcap : Nat) (hn : l.length ≤ 1000) (h : checkR [1] false l = 1) : Calls Tryd.prog 8 #[.string ⟨#[114, 97, 110, 103, 101]⟩, .slice lao l.length lcap] w (Doc (vz, 1) w) := by
  have hc : l.length < 1 ∨ 1 < l.length := by
    unfold checkR at h
    split at h
    · rename_i h1; simpa using h1
    · split at h
      · cases h
      · cases h
  clear h
  generalize l.length = n at *
  by_cases h0 : n < 1
  · have h1 : (n : Int) < 1 := by omega
    clear hc
    have B0 := Lib.hid (below_al (Below.refl w.heap.size w) (.cells #[.int .i64 0, .int .i64 0, .string ⟨#[]⟩, .slice none 0 0, .int .i64 0] 32))
    have G0 := Lib.hid (show GotB (w.alloc (.cells #[.int .i64 0, .int .i64 0, .string ⟨#[]⟩, .slice none 0 0, .int .i64 0] 32)) w.heap.size 0 0 ⟨#[]⟩ 0 from heap_alloc_new w _)
    go_enter Tryd.func8, Tryd.ntmps8
    go_wp2_with fail
    generalize w.alloc (.cells #[.int .i64 0, .int .i64 0, .string ⟨#[]⟩, .slice none 0 0, .int .i64 0] 32) = wa at *
    refine (rwants_range _).mono ?_
    rintro e w1 ⟨rfl, rfl⟩
    have BB := B0
    have GB := G0
    go_wp2_with fail
    refine (rbad _ _).mono ?_
    rintro e w2 ⟨rfl, hb⟩
    obtain ⟨⟨r0, r1, r2, r3, r4⟩, ⟨f0, f1, f2, f3, f4⟩, rl⟩ := (GB.out.below hb).full
    have B1 := Lib.hid (below_tr BB.out hb)
    clear hb
    go_wp2_with fail
    exact bodyPost_ret (v := .agg #[.int .i64 0, .int .i64 0, .string ⟨#[]⟩, .slice none 0 0, .int .i64 1]) (by simp [results, Tryd.results8, go_sem, r0, r1, r2, r3, r4, vz, VL.kind, VL.num, VL.text]) rfl ⟨rfl, below_set5 B1.out (Nat.le_refl _) _ _ _ _ _⟩
  · have h1 : ¬ (n : Int) < 1 := by omega
    have h2 : (1 : Int) < (n : Int) := by omega
    clear hc h0
    have B0 := Lib.hid (below_al (Below.refl w.heap.size w) (.cells #[.int .i64 0, .int .i64 0, .string ⟨#[]⟩, .slice none 0 0, .int .i64 0] 32))
    have G0 := Lib.hid (show GotB (w.alloc (.cells #[.int .i64 0, .int .i64 0, .string ⟨#[]⟩, .slice none 0 0, .int .i64 0] 32)) w.heap.size 0 0 ⟨#[]⟩ 0 from heap_alloc_new w _)
    go_enter Tryd.func8, Tryd.ntmps8
    go_wp2_with fail
    generalize w.alloc (.cells #[.int .i64 0, .int .i64 0, .string ⟨#[]⟩, .slice none 0 0, .int .i64 0] 32) = wa at *
    refine (rwants_range _).mono ?_
    rintro e w1 ⟨rfl, rfl⟩
    have BB := B0
    have GB := G0
    go_wp2_with fail
    refine (rbad _ _).mono ?_
    rintro e w2 ⟨rfl, hb⟩
    obtain ⟨⟨r0, r1, r2, r3, r4⟩, ⟨f0, f1, f2, f3, f4⟩, rl⟩ := (GB.out.below hb).full
    have B1 := Lib.hid (below_tr BB.out hb)
    clear hb
    go_wp2_with fail
    exact bodyPost_ret (v := .agg #[.int .i64 0, .int .i64 0, .string ⟨#[]⟩, .slice none 0 0, .int .i64 1]) (by simp [results, Tryd.results8, go_sem, r0, r1, r2, r3, r4, vz, VL.kind, VL.num, VL.text]) rfl ⟨rfl, below_set5 B1.out (Nat.le_refl _) _ _ _ _ _⟩
set_option maxHeartbeats 4000000 in
theorem rcall_type_range (D : Nat) (l : List VL) (lv : Value) (hr : RowRd w D l lv) (hn : l.length ≤ 1000) (hkl : ∀ v ∈ l, v.kids.length ≤ 1000) (hnk : ∀ v ∈ l, v.kind ≠ 4 → v.kids = []) (hlo : 1 ≤ l.length ∧ l.length ≤ 1) (h : fitAllB [1] l = false) : Calls Tryd.prog 8 #[.string ⟨#[114, 97, 110, 103, 101]⟩, lv] w (Doc (vz, 7) w) := by
  have RR := Lib.hid (fun W (hW : Below w.heap.size w W) => by have := rright_range W D l lv (hr.below hW) hn hkl hnk; rw [h] at this; exact this)
  obtain ⟨lao, lcap, rfl⟩ := hr.shape
  clear hr hkl hnk h
  generalize l.length = n at *
  have h1 : ¬ (n : Int) < 1 := by omega
  have h2 : ¬ (1 : Int) < (n : Int) := by omega
  clear hlo
  have B0 := Lib.hid (below_al (Below.refl w.heap.size w) (.cells #[.int .i64 0, .int .i64 0, .string ⟨#[]⟩, .slice none 0 0, .int .i64 0] 32))
  have G0 := Lib.hid (show GotB (w.alloc (.cells #[.int .i64 0, .int .i64 0, .string ⟨#[]⟩, .slice none 0 0, .int .i64 0] 32)) w.heap.size 0 0 ⟨#[]⟩ 0 from heap_alloc_new w _)
  go_enter Tryd.func8, Tryd.ntmps8
  go_wp2_with fail
  generalize w.alloc (.cells #[.int .i64 0, .int .i64 0, .string ⟨#[]⟩, .slice none 0 0, .int .i64 0] 32) = wa at *
  refine (rwants_range _).mono ?_
  rintro e w1 ⟨rfl, rfl⟩
  go_wp2_with fail
  refine (RR.out _ B0.out).mono ?_
  rintro e w1 ⟨rfl, hb1⟩
  have BB := Lib.hid (below_tr B0.out hb1)
  have GB := Lib.hid (G0.out.below hb1)
  clear hb1
  go_wp2_with fail
  refine (rbad _ _).mono ?_
  rintro e w2 ⟨rfl, hb⟩
  obtain ⟨⟨r0, r1, r2, r3, r4⟩, ⟨f0, f1, f2, f3, f4⟩, rl⟩ := (GB.out.below hb).full
  have B1 := Lib.hid (below_tr BB.out hb)
  clear hb
  go_wp2_with fail
  exact bodyPost_ret (v := .agg #[.int .i64 0, .int .i64 0, .string ⟨#[]⟩, .slice none 0 0, .int .i64 7]) (by simp [results, Tryd.results8, go_sem, r0, r1, r2, r3, r4, vz, VL.kind, VL.num, VL.text]) rfl ⟨rfl, below_set5 B1.out (Nat.le_refl _) _ _ _ _ _⟩
set_option maxHeartbeats 4000000 in
theorem rcall_arg_abs (l : List VL) (lao : Option Addr) (lcap : Nat) (hn : l.length ≤ 1000) (h : checkR [1] false l = 1) : Calls Tryd.prog 8 #[.string ⟨#[97, 98, 115]⟩, .slice lao l.length lcap] w (Doc (vz, 1) w) := by
  have hc : l.length < 1 ∨ 1 < l.length := by
    unfold checkR at h
    split at h
    · rename_i h1; simpa using h1
    · split at h
      · cases h
      · cases h
  clear h
  generalize l.length = n at *
  by_cases h0 : n < 1
  · have h1 : (n : Int) < 1 := by omega
    clear hc
    have B0 := Lib.hid (below_al (Below.refl w.heap.size w) (.cells #[.int .i64 0, .int .i64 0, .string ⟨#[]⟩, .slice none 0 0, .int .i64 0] 32))
    have G0 := Lib.hid (show GotB (w.alloc (.cells #[.int .i64 0, .int .i64 0, .string ⟨#[]⟩, .slice none 0 0, .int .i64 0] 32)) w.heap.size 0 0 ⟨#[]⟩ 0 from heap_alloc_new w _)
    go_enter Tryd.func8, Tryd.ntmps8
    go_wp2_with fail
    generalize w.alloc (.cells #[.int .i64 0, .int .i64 0, .string ⟨#[]⟩, .slice none 0 0, .int .i64 0] 32) = wa at *
    refine (rwants_abs _).mono ?_
    rintro e w1 ⟨rfl, rfl⟩
    have BB := B0
    have GB := G0
    go_wp2_with fail
    refine (rbad _ _).mono ?_
    rintro e w2 ⟨rfl, hb⟩
    obtain ⟨⟨r0, r1, r2, r3, r4⟩, ⟨f0, f1, f2, f3, f4⟩, rl⟩ := (GB.out.below hb).full
    have B1 := Lib.hid (below_tr BB.out hb)
    clear hb
    go_wp2_with fail
    exact bodyPost_ret (v := .agg #[.int .i64 0, .int .i64 0, .string ⟨#[]⟩, .slice none 0 0, .int .i64 1]) (by simp [results, Tryd.results8, go_sem, r0, r1, r2, r3, r4, vz, VL.kind, VL.num, VL.text]) rfl ⟨rfl, below_set5 B1.out (Nat.le_refl _) _ _ _ _ _⟩
  · have h1 : ¬ (n : Int) < 1 := by omega
    have h2 : (1 : Int) < (n : Int) := by omega
    clear hc h0
    have B0 := Lib.hid (below_al (Below.refl w.heap.size w) (.cells #[.int .i64 0, .int .i64 0, .string ⟨#[]⟩, .slice none 0 0, .int .i64 0] 32))
    have G0 := Lib.hid (show GotB (w.alloc (.cells #[.int .i64 0, .int .i64 0, .string ⟨#[]⟩, .slice none 0 0, .int .i64 0] 32)) w.heap.size 0 0 ⟨#[]⟩ 0 from heap_alloc_new w _)
    go_enter Tryd.func8, Tryd.ntmps8
    go_wp2_with fail
    generalize w.alloc (.cells #[.int .i64 0, .int .i64 0, .string ⟨#[]⟩, .slice none 0 0, .int .i64 0] 32) = wa at *
    refine (rwants_abs _).mono ?_
    rintro e w1 ⟨rfl, rfl⟩
    have BB := B0
    have GB := G0
    go_wp2_with fail
    refine (rbad _ _).mono ?_
    rintro e w2 ⟨rfl, hb⟩
    obtain ⟨⟨r0, r1, r2, r3, r4⟩, ⟨f0, f1, f2, f3, f4⟩, rl⟩ := (GB.out.below hb).full
    have B1 := Lib.hid (below_tr BB.out hb)
    clear hb
    go_wp2_with fail
    exact bodyPost_ret (v := .agg #[.int .i64 0, .int .i64 0, .string ⟨#[]⟩, .slice none 0 0, .int .i64 1]) (by simp [results, Tryd.results8, go_sem, r0, r1, r2, r3, r4, vz, VL.kind, VL.num, VL.text]) rfl ⟨rfl, below_set5 B1.out (Nat.le_refl _) _ _ _ _ _⟩
set_option maxHeartbeats 4000000 in
theorem rcall_type_abs (D : Nat) (l : List VL) (lv : Value) (hr : RowRd w D l lv) (hn : l.length ≤ 1000) (hkl : ∀ v ∈ l, v.kids.length ≤ 1000) (hnk : ∀ v ∈ l, v.kind ≠ 4 → v.kids = []) (hlo : 1 ≤ l.length ∧ l.length ≤ 1) (h : fitAllB [1] l = false) : Calls Tryd.prog 8 #[.string ⟨#[97, 98, 115]⟩, lv] w (Doc (vz, 7) w) := by
  have RR := Lib.hid (fun W (hW : Below w.heap.size w W) => by have := rright_abs W D l lv (hr.below hW) hn hkl hnk; rw [h] at this; exact this)
  obtain ⟨lao, lcap, rfl⟩ := hr.shape
  clear hr hkl hnk h
  generalize l.length = n at *
  have h1 : ¬ (n : Int) < 1 := by omega
  have h2 : ¬ (1 : Int) < (n : Int) := by omega
  clear hlo
  have B0 := Lib.hid (below_al (Below.refl w.heap.size w) (.cells #[.int .i64 0, .int .i64 0, .string ⟨#[]⟩, .slice none 0 0, .int .i64 0] 32))
  have G0 := Lib.hid (show GotB (w.alloc (.cells #[.int .i64 0, .int .i64 0, .string ⟨#[]⟩, .slice none 0 0, .int .i64 0] 32)) w.heap.size 0 0 ⟨#[]⟩ 0 from heap_alloc_new w _)
  go_enter Tryd.func8, Tryd.ntmps8
  go_wp2_with fail
  generalize w.alloc (.cells #[.int .i64 0, .int .i64 0, .string ⟨#[]⟩, .slice none 0 0, .int .i64 0] 32) = wa at *
  refine (rwants_abs _).mono ?_
  rintro e w1 ⟨rfl, rfl⟩
  go_wp2_with fail
  refine (RR.out _ B0.out).mono ?_
  rintro e w1 ⟨rfl, hb1⟩
  have BB := Lib.hid (below_tr B0.out hb1)
  have GB := Lib.hid (G0.out.below hb1)
  clear hb1
  go_wp2_with fail
  refine (rbad _ _).mono ?_
  rintro e w2 ⟨rfl, hb⟩
  obtain ⟨⟨r0, r1, r2, r3, r4⟩, ⟨f0, f1, f2, f3, f4⟩, rl⟩ := (GB.out.below hb).full
  have B1 := Lib.hid (below_tr BB.out hb)
  clear hb
  go_wp2_with fail
  exact bodyPost_ret (v := .agg #[.int .i64 0, .int .i64 0, .string ⟨#[]⟩, .slice none 0 0, .int .i64 7]) (by simp [results, Tryd.results8, go_sem, r0, r1, r2, r3, r4, vz, VL.kind, VL.num, VL.text]) rfl ⟨rfl, below_set5 B1.out (Nat.le_refl _) _ _ _ _ _⟩
set_option maxHeartbeats 4000000 in
theorem rcall_arg_has (l : List VL) (lao : Option Addr) (lcap : Nat) (hn : l.length ≤ 1000) (h : checkR [3, 0] false l = 1) : Calls Tryd.prog 8 #[.string ⟨#[104, 97, 115]⟩, .slice lao l.length lcap] w (Doc (vz, 1) w) := by
  have hc : l.length < 2 ∨ 2 < l.length := by
    unfold checkR at h
    split at h
    · rename_i h1; simpa using h1
    · split at h
      · cases h
      · cases h
  clear h
  generalize l.length = n at *
  by_cases h0 : n < 2
  · have h1 : (n : Int) < 2 := by omega
    clear hc
    have B0 := Lib.hid (below_al (Below.refl w.heap.size w) (.cells #[.int .i64 0, .int .i64 0, .string ⟨#[]⟩, .slice none 0 0, .int .i64 0] 32))
    have G0 := Lib.hid (show GotB (w.alloc (.cells #[.int .i64 0, .int .i64 0, .string ⟨#[]⟩, .slice none 0 0, .int .i64 0] 32)) w.heap.size 0 0 ⟨#[]⟩ 0 from heap_alloc_new w _)
    go_enter Tryd.func8, Tryd.ntmps8
    go_wp2_with fail
    generalize w.alloc (.cells #[.int .i64 0, .int .i64 0, .string ⟨#[]⟩, .slice none 0 0, .int .i64 0] 32) = wa at *
    refine (rwants_has _).mono ?_
    rintro e w1 ⟨rfl, rfl⟩
    have BB := B0
    have GB := G0
    go_wp2_with fail
    refine (rbad _ _).mono ?_
    rintro e w2 ⟨rfl, hb⟩
    obtain ⟨⟨r0, r1, r2, r3, r4⟩, ⟨f0, f1, f2, f3, f4⟩, rl⟩ := (GB.out.below hb).full
    have B1 := Lib.hid (below_tr BB.out hb)
    clear hb
    go_wp2_with fail
    exact bodyPost_ret (v := .agg #[.int .i64 0, .int .i64 0, .string ⟨#[]⟩, .slice none 0 0, .int .i64 1]) (by simp [results, Tryd.results8, go_sem, r0, r1, r2, r3, r4, vz, VL.kind, VL.num, VL.text]) rfl ⟨rfl, below_set5 B1.out (Nat.le_refl _) _ _ _ _ _⟩
  · have h1 : ¬ (n : Int) < 2 := by omega
    have h2 : (2 : Int) < (n : Int) := by omega
    clear hc h0
    have B0 := Lib.hid (below_al (Below.refl w.heap.size w) (.cells #[.int .i64 0, .int .i64 0, .string ⟨#[]⟩, .slice none 0 0, .int .i64 0] 32))
    have G0 := Lib.hid (show GotB (w.alloc (.cells #[.int .i64 0, .int .i64 0, .string ⟨#[]⟩, .slice none 0 0, .int .i64 0] 32)) w.heap.size 0 0 ⟨#[]⟩ 0 from heap_alloc_new w _)
    go_enter Tryd.func8, Tryd.ntmps8
    go_wp2_with fail
    generalize w.alloc (.cells #[.int .i64 0, .int .i64 0, .string ⟨#[]⟩, .slice none 0 0, .int .i64 0] 32) = wa at *
    refine (rwants_has _).mono ?_
    rintro e w1 ⟨rfl, rfl⟩
    have BB := B0
    have GB := G0
    go_wp2_with fail
    refine (rbad _ _).mono ?_
    rintro e w2 ⟨rfl, hb⟩
    obtain ⟨⟨r0, r1, r2, r3, r4⟩, ⟨f0, f1, f2, f3, f4⟩, rl⟩ := (GB.out.below hb).full
    have B1 := Lib.hid (below_tr BB.out hb)
    clear hb
    go_wp2_with fail
    exact bodyPost_ret (v := .agg #[.int .i64 0, .int .i64 0, .string ⟨#[]⟩, .slice none 0 0, .int .i64 1]) (by simp [results, Tryd.results8, go_sem, r0, r1, r2, r3, r4, vz, VL.kind, VL.num, VL.text]) rfl ⟨rfl, below_set5 B1.out (Nat.le_refl _) _ _ _ _ _⟩
set_option maxHeartbeats 4000000 in
theorem rcall_type_has (D : Nat) (l : List VL) (lv : Value) (hr : RowRd w D l lv) (hn : l.length ≤ 1000) (hkl : ∀ v ∈ l, v.kids.length ≤ 1000) (hnk : ∀ v ∈ l, v.kind ≠ 4 → v.kids = []) (hlo : 2 ≤ l.length ∧ l.length ≤ 2) (h : fitAllB [3, 0] l = false) : Calls Tryd.prog 8 #[.string ⟨#[104, 97, 115]⟩, lv] w (Doc (vz, 7) w) := by
  have RR := Lib.hid (fun W (hW : Below w.heap.size w W) => by have := rright_has W D l lv (hr.below hW) hn hlo.2 hkl hnk; rw [h] at this; exact this)
  obtain ⟨lao, lcap, rfl⟩ := hr.shape
  clear hr hkl hnk h
  generalize l.length = n at *
  have h1 : ¬ (n : Int) < 2 := by omega
  have h2 : ¬ (2 : Int) < (n : Int) := by omega
  clear hlo
  have B0 := Lib.hid (below_al (Below.refl w.heap.size w) (.cells #[.int .i64 0, .int .i64 0, .string ⟨#[]⟩, .slice none 0 0, .int .i64 0] 32))
  have G0 := Lib.hid (show GotB (w.alloc (.cells #[.int .i64 0, .int .i64 0, .string ⟨#[]⟩, .slice none 0 0, .int .i64 0] 32)) w.heap.size 0 0 ⟨#[]⟩ 0 from heap_alloc_new w _)
  go_enter Tryd.func8, Tryd.ntmps8
  go_wp2_with fail
  generalize w.alloc (.cells #[.int .i64 0, .int .i64 0, .string ⟨#[]⟩, .slice none 0 0, .int .i64 0] 32) = wa at *
  refine (rwants_has _).mono ?_
  rintro e w1 ⟨rfl, rfl⟩
  go_wp2_with fail
  refine (RR.out _ B0.out).mono ?_
  rintro e w1 ⟨rfl, hb1⟩
  have BB := Lib.hid (below_tr B0.out hb1)
  have GB := Lib.hid (G0.out.below hb1)
  clear hb1
  go_wp2_with fail
  refine (rbad _ _).mono ?_
  rintro e w2 ⟨rfl, hb⟩
  obtain ⟨⟨r0, r1, r2, r3, r4⟩, ⟨f0, f1, f2, f3, f4⟩, rl⟩ := (GB.out.below hb).full
  have B1 := Lib.hid (below_tr BB.out hb)
  clear hb
  go_wp2_with fail
  exact bodyPost_ret (v := .agg #[.int .i64 0, .int .i64 0, .string ⟨#[]⟩, .slice none 0 0, .int .i64 7]) (by simp [results, Tryd.results8, go_sem, r0, r1, r2, r3, r4, vz, VL.kind, VL.num, VL.text]) rfl ⟨rfl, below_set5 B1.out (Nat.le_refl _) _ _ _ _ _⟩
set_option maxHeartbeats 4000000 in
theorem rcall_arg_text (l : List VL) (lao : Option Addr) (lcap : Nat) (hn : l.length ≤ 1000) (h : checkR [0] false l = 1) : Calls Tryd.prog 8 #[.string ⟨#[116, 101, 120, 116]⟩, .slice lao l.length lcap] w (Doc (vz, 1) w) := by
  have hc : l.length < 1 ∨ 1 < l.length := by
    unfold checkR at h
    split at h
    · rename_i h1; simpa using h1
    · split at h
      · cases h
      · cases h
  clear h
  generalize l.length = n at *
  by_cases h0 : n < 1
  · have h1 : (n : Int) < 1 := by omega
    clear hc
    have B0 := Lib.hid (below_al (Below.refl w.heap.size w) (.cells #[.int .i64 0, .int .i64 0, .string ⟨#[]⟩, .slice none 0 0, .int .i64 0] 32))
    have G0 := Lib.hid (show GotB (w.alloc (.cells #[.int .i64 0, .int .i64 0, .string ⟨#[]⟩, .slice none 0 0, .int .i64 0] 32)) w.heap.size 0 0 ⟨#[]⟩ 0 from heap_alloc_new w _)
    go_enter Tryd.func8, Tryd.ntmps8
    go_wp2_with fail
    generalize w.alloc (.cells #[.int .i64 0, .int .i64 0, .string ⟨#[]⟩, .slice none 0 0, .int .i64 0] 32) = wa at *
    refine (rwants_text _).mono ?_
    rintro e w1 ⟨rfl, rfl⟩
    have BB := B0
    have GB := G0
    go_wp2_with fail
    refine (rbad _ _).mono ?_
    rintro e w2 ⟨rfl, hb⟩
    obtain ⟨⟨r0, r1, r2, r3, r4⟩, ⟨f0, f1, f2, f3, f4⟩, rl⟩ := (GB.out.below hb).full
    have B1 := Lib.hid (below_tr BB.out hb)
    clear hb
    go_wp2_with fail
    exact bodyPost_ret (v := .agg #[.int .i64 0, .int .i64 0, .string ⟨#[]⟩, .slice none 0 0, .int .i64 1]) (by simp [results, Tryd.results8, go_sem, r0, r1, r2, r3, r4, vz, VL.kind, VL.num, VL.text]) rfl ⟨rfl, below_set5 B1.out (Nat.le_refl _) _ _ _ _ _⟩
  · have h1 : ¬ (n : Int) < 1 := by omega
    have h2 : (1 : Int) < (n : Int) := by omega
    clear hc h0
    have B0 := Lib.hid (below_al (Below.refl w.heap.size w) (.cells #[.int .i64 0, .int .i64 0, .string ⟨#[]⟩, .slice none 0 0, .int .i64 0] 32))
    have G0 := Lib.hid (show GotB (w.alloc (.cells #[.int .i64 0, .int .i64 0, .string ⟨#[]⟩, .slice none 0 0, .int .i64 0] 32)) w.heap.size 0 0 ⟨#[]⟩ 0 from heap_alloc_new w _)
    go_enter Tryd.func8, Tryd.ntmps8
    go_wp2_with fail
    generalize w.alloc (.cells #[.int .i64 0, .int .i64 0, .string ⟨#[]⟩, .slice none 0 0, .int .i64 0] 32) = wa at *
    refine (rwants_text _).mono ?_
    rintro e w1 ⟨rfl, rfl⟩
    have BB := B0
    have GB := G0
    go_wp2_with fail
    refine (rbad _ _).mono ?_
    rintro e w2 ⟨rfl, hb⟩
    obtain ⟨⟨r0, r1, r2, r3, r4⟩, ⟨f0, f1, f2, f3, f4⟩, rl⟩ := (GB.out.below hb).full
    have B1 := Lib.hid (below_tr BB.out hb)
    clear hb
    go_wp2_with fail
    exact bodyPost_ret (v := .agg #[.int .i64 0, .int .i64 0, .string ⟨#[]⟩, .slice none 0 0, .int .i64 1]) (by simp [results, Tryd.results8, go_sem, r0, r1, r2, r3, r4, vz, VL.kind, VL.num, VL.text]) rfl ⟨rfl, below_set5 B1.out (Nat.le_refl _) _ _ _ _ _⟩
set_option maxHeartbeats 4000000 in
theorem rcall_type_text (D : Nat) (l : List VL) (lv : Value) (hr : RowRd w D l lv) (hn : l.length ≤ 1000) (hkl : ∀ v ∈ l, v.kids.length ≤ 1000) (hnk : ∀ v ∈ l, v.kind ≠ 4 → v.kids = []) (hlo : 1 ≤ l.length ∧ l.length ≤ 1) (h : fitAllB [0] l = false) : Calls Tryd.prog 8 #[.string ⟨#[116, 101, 120, 116]⟩, lv] w (Doc (vz, 7) w) := by
  have RR := Lib.hid (fun W (hW : Below w.heap.size w W) => by have := rright_text W D l lv (hr.below hW) hn hkl hnk; rw [h] at this; exact this)
  obtain ⟨lao, lcap, rfl⟩ := hr.shape
  clear hr hkl hnk h
  generalize l.length = n at *
  have h1 : ¬ (n : Int) < 1 := by omega
  have h2 : ¬ (1 : Int) < (n : Int) := by omega
  clear hlo
  have B0 := Lib.hid (below_al (Below.refl w.heap.size w) (.cells #[.int .i64 0, .int .i64 0, .string ⟨#[]⟩, .slice none 0 0, .int .i64 0] 32))
  have G0 := Lib.hid (show GotB (w.alloc (.cells #[.int .i64 0, .int .i64 0, .string ⟨#[]⟩, .slice none 0 0, .int .i64 0] 32)) w.heap.size 0 0 ⟨#[]⟩ 0 from heap_alloc_new w _)
  go_enter Tryd.func8, Tryd.ntmps8
  go_wp2_with fail
  generalize w.alloc (.cells #[.int .i64 0, .int .i64 0, .string ⟨#[]⟩, .slice none 0 0, .int .i64 0] 32) = wa at *
  refine (rwants_text _).mono ?_
  rintro e w1 ⟨rfl, rfl⟩
  go_wp2_with fail
  refine (RR.out _ B0.out).mono ?_
  rintro e w1 ⟨rfl, hb1⟩
  have BB := Lib.hid (below_tr B0.out hb1)
  have GB := Lib.hid (G0.out.below hb1)
  clear hb1
  go_wp2_with fail
  refine (rbad _ _).mono ?_
  rintro e w2 ⟨rfl, hb⟩
  obtain ⟨⟨r0, r1, r2, r3, r4⟩, ⟨f0, f1, f2, f3, f4⟩, rl⟩ := (GB.out.below hb).full
  have B1 := Lib.hid (below_tr BB.out hb)
  clear hb
  go_wp2_with fail
  exact bodyPost_ret (v := .agg #[.int .i64 0, .int .i64 0, .string ⟨#[]⟩, .slice none 0 0, .int .i64 7]) (by simp [results, Tryd.results8, go_sem, r0, r1, r2, r3, r4, vz, VL.kind, VL.num, VL.text]) rfl ⟨rfl, below_set5 B1.out (Nat.le_refl _) _ _ _ _ _⟩
end
end Go.Proofs.YtoaachefdbepiaaDoor
