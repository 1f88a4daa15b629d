/- The document's One. -/
import Derived.Test.YtmmdjpogepjdaaaDoorValX
import Derived.Test.YtmmdjpogepjdaaaDoorValD
namespace Go.Proofs.YtmmdjpogepjdaaaDoor
open Go.RowKit
set_option linter.unusedVariables false
set_option linter.unusedSimpArgs false

section
variable (w : World)
set_option maxRecDepth 20000
set_option maxHeartbeats 2000000 in
theorem ro_x (v : VL) (lao : Option Addr) (ln lcap : Nat) (k : Int) (h8 : ¬ k = 8) (h9 : ¬ k = 9) :
    Calls Tryd.prog 19 #[.int .i64 k, .agg #[.int .i64 v.kind, .int .i64 v.num, .string v.text, .slice lao ln lcap]] w (Doc (vz, 1) w) := by
  have g8 : (k != 8) = true := by simpa using h8
  have g9 : (k != 9) = true := by simpa using h9
  clear h8 h9
  go_enter Tryd.func19, Tryd.ntmps19
  go_wp2_with fail
  refine (rbad _ _).mono ?_
  rintro e w1 ⟨rfl, hb⟩
  obtain ⟨hc, hf⟩ := bcell hb
  have B1 := Lib.hid (below_tr (below_al (below_al (Below.refl _ _) _) _) hb)
  have z0 : w.heap.size + 1 < w1.heap.size := by have := hb.size; simp at this; omega
  clear hb
  go_wp2_with fail
  exact bodyPost_ret (v := .agg #[.int .i64 0, .int .i64 0, .string ⟨#[]⟩, .slice none 0 0, .int .i64 1]) (by simp [results, Tryd.results19, go_sem, hc, z0, vnum, vz, vbool, VL.kind, VL.num, VL.text]) rfl ⟨rfl, below_set5 B1.out (by omega) _ _ _ _ _⟩
set_option maxHeartbeats 2000000 in
theorem ro_b (v : VL) (lao : Option Addr) (ln lcap : Nat) (h : v.kind = 3) :
    Calls Tryd.prog 19 #[.int .i64 8, .agg #[.int .i64 v.kind, .int .i64 v.num, .string v.text, .slice lao ln lcap]] w (Doc (vbool (v.num == 0), 0) w) := by
  have g : (v.kind == 3) = true := by simpa using h
  clear h
  go_enter Tryd.func19, Tryd.ntmps19
  go_wp2_with fail
  refine (rtruth _ _).mono ?_
  rintro e w1 ⟨rfl, hb⟩
  obtain ⟨hc, hf⟩ := bcell hb
  have B1 := Lib.hid (below_tr (below_al (below_al (Below.refl _ _) _) _) hb)
  have z0 : w.heap.size + 1 < w1.heap.size := by have := hb.size; simp at this; omega
  clear hb
  go_wp2_with fail
  exact bodyPost_ret (v := .agg #[.int .i64 (vbool (v.num == 0)).kind, .int .i64 (vbool (v.num == 0)).num, .string (vbool (v.num == 0)).text, .slice none 0 0, .int .i64 0]) (by simp [results, Tryd.results19, go_sem, hc, z0, vnum, vz, vz]) rfl ⟨rfl, below_set5 B1.out (by omega) _ _ _ _ _⟩
set_option maxHeartbeats 2000000 in
theorem ro_bt (v : VL) (lao : Option Addr) (ln lcap : Nat) (h : ¬ v.kind = 3) :
    Calls Tryd.prog 19 #[.int .i64 8, .agg #[.int .i64 v.kind, .int .i64 v.num, .string v.text, .slice lao ln lcap]] w (Doc (vz, 7) w) := by
  have g : (v.kind == 3) = false := by simpa using h
  clear h
  go_enter Tryd.func19, Tryd.ntmps19
  go_wp2_with fail
  refine (rbad _ _).mono ?_
  rintro e w1 ⟨rfl, hb⟩
  obtain ⟨hc, hf⟩ := bcell hb
  have B1 := Lib.hid (below_tr (below_al (below_al (Below.refl _ _) _) _) hb)
  have z0 : w.heap.size + 1 < w1.heap.size := by have := hb.size; simp at this; omega
  clear hb
  go_wp2_with fail
  exact bodyPost_ret (v := .agg #[.int .i64 0, .int .i64 0, .string ⟨#[]⟩, .slice none 0 0, .int .i64 7]) (by simp [results, Tryd.results19, go_sem, hc, z0, vnum, vz, vbool, VL.kind, VL.num, VL.text]) rfl ⟨rfl, below_set5 B1.out (by omega) _ _ _ _ _⟩
set_option maxHeartbeats 2000000 in
theorem ro_nt (v : VL) (lao : Option Addr) (ln lcap : Nat) (h : ¬ v.kind = 1) :
    Calls Tryd.prog 19 #[.int .i64 9, .agg #[.int .i64 v.kind, .int .i64 v.num, .string v.text, .slice lao ln lcap]] w (Doc (vz, 7) w) := by
  have g : (v.kind == 1) = false := by simpa using h
  clear h
  go_enter Tryd.func19, Tryd.ntmps19
  go_wp2_with fail
  refine (rbad _ _).mono ?_
  rintro e w1 ⟨rfl, hb⟩
  obtain ⟨hc, hf⟩ := bcell hb
  have B1 := Lib.hid (below_tr (below_al (below_al (Below.refl _ _) _) _) hb)
  have z0 : w.heap.size + 1 < w1.heap.size := by have := hb.size; simp at this; omega
  clear hb
  go_wp2_with fail
  exact bodyPost_ret (v := .agg #[.int .i64 0, .int .i64 0, .string ⟨#[]⟩, .slice none 0 0, .int .i64 7]) (by simp [results, Tryd.results19, go_sem, hc, z0, vnum, vz, vbool, VL.kind, VL.num, VL.text]) rfl ⟨rfl, below_set5 B1.out (by omega) _ _ _ _ _⟩
set_option maxHeartbeats 2000000 in
theorem ro_nl (v : VL) (lao : Option Addr) (ln lcap : Nat) (h : v.kind = 1) (hl : v.num = -9223372036854775808) :
    Calls Tryd.prog 19 #[.int .i64 9, .agg #[.int .i64 v.kind, .int .i64 v.num, .string v.text, .slice lao ln lcap]] w (Doc (vz, 8) w) := by
  have g : (v.kind == 1) = true := by simpa using h
  have g2 : (v.num == -9223372036854775808) = true := by simpa using hl
  clear h hl
  go_enter Tryd.func19, Tryd.ntmps19
  go_wp2_with fail
  refine (rbad _ _).mono ?_
  rintro e w1 ⟨rfl, hb⟩
  obtain ⟨hc, hf⟩ := bcell hb
  have B1 := Lib.hid (below_tr (below_al (below_al (Below.refl _ _) _) _) hb)
  have z0 : w.heap.size + 1 < w1.heap.size := by have := hb.size; simp at this; omega
  clear hb
  go_wp2_with fail
  exact bodyPost_ret (v := .agg #[.int .i64 0, .int .i64 0, .string ⟨#[]⟩, .slice none 0 0, .int .i64 8]) (by simp [results, Tryd.results19, go_sem, hc, z0, vnum, vz, vbool, VL.kind, VL.num, VL.text]) rfl ⟨rfl, below_set5 B1.out (by omega) _ _ _ _ _⟩
set_option maxHeartbeats 2000000 in
theorem ro_n (v : VL) (lao : Option Addr) (ln lcap : Nat) (h : v.kind = 1) (hi : I64 v.num) (hl : ¬ v.num = -9223372036854775808) :
    Calls Tryd.prog 19 #[.int .i64 9, .agg #[.int .i64 v.kind, .int .i64 v.num, .string v.text, .slice lao ln lcap]] w (Doc (vnum (-v.num), 0) w) := by
  have g : (v.kind == 1) = true := by simpa using h
  have g2 : (v.num == -9223372036854775808) = false := by simpa using hl
  unfold I64 at hi
  have hi1 : -9223372036854775807 ≤ v.num := by omega
  have hi2 : v.num ≤ 9223372036854775807 := by omega
  clear h hl hi
  go_enter Tryd.func19, Tryd.ntmps19
  go_wp2_with fail
  refine (rnum _ _).mono ?_
  rintro e w1 ⟨rfl, hb⟩
  obtain ⟨hc, hf⟩ := bcell hb
  have B1 := Lib.hid (below_tr (below_al (below_al (Below.refl _ _) _) _) hb)
  have z0 : w.heap.size + 1 < w1.heap.size := by have := hb.size; simp at this; omega
  clear hb
  go_wp2_with fail
  exact bodyPost_ret (v := .agg #[.int .i64 1, .int .i64 (-v.num), .string ⟨#[]⟩, .slice none 0 0, .int .i64 0]) (by simp [results, Tryd.results19, go_sem, hc, z0, vnum, vz, vbool, VL.kind, VL.num, VL.text]) rfl ⟨rfl, below_set5 B1.out (by omega) _ _ _ _ _⟩
theorem rone (k : Int) (v : VL) (lao : Option Addr) (ln lcap : Nat) (hi : I64 v.num) : Calls Tryd.prog 19 #[.int .i64 k, .agg #[.int .i64 v.kind, .int .i64 v.num, .string v.text, .slice lao ln lcap]] w (Doc (oneR k v) w) := by
  unfold oneR
  by_cases h8 : k = 8
  · subst h8
    rw [if_pos rfl]
    by_cases h : v.kind = 3
    · rw [if_pos h]; exact ro_b w v lao ln lcap h
    · rw [if_neg h]; exact ro_bt w v lao ln lcap h
  · rw [if_neg h8]
    by_cases h9 : k = 9
    · subst h9
      rw [if_pos rfl]
      by_cases h : v.kind = 1
      · rw [if_pos h]
        by_cases hl : v.num = -9223372036854775808
        · rw [fit_out (by rw [hl]; omega)]; exact ro_nl w v lao ln lcap h hl
        · rw [fit_in (by unfold I64 at hi; omega), show (0 - v.num) = -v.num by omega]; exact ro_n w v lao ln lcap h hi hl
      · rw [if_neg h]; exact ro_nt w v lao ln lcap h
    · rw [if_neg h9]; exact ro_x w v lao ln lcap k h8 h9
end
end Go.Proofs.YtmmdjpogepjdaaaDoor
