/- The document's reckoning of two numbers. -/
import Derived.Test.YtmmdjpogepjdaaaDoorValW
namespace Go.Proofs.YtmmdjpogepjdaaaDoor
open Go.RowKit
set_option linter.unusedVariables false
set_option linter.unusedSimpArgs false

theorem below_set5 {B : Nat} {w W : World} (h : Below B w W) {g : Nat} (hg : B ≤ g) (v0 v1 v2 v3 v4 : Value) : Below B w (((((W.setCell ⟨g, 0, none⟩ v0).setCell ⟨g, 1, none⟩ v1).setCell ⟨g, 2, none⟩ v2).setCell ⟨g, 3, none⟩ v3).setCell ⟨g, 4, none⟩ v4) :=
  ((((h.setCell hg _).setCell hg _).setCell hg _).setCell hg _).setCell hg _
section
variable (w : World)
set_option maxRecDepth 20000
set_option maxHeartbeats 2000000 in
theorem rk_add_in (a b : Int) (ha : I64 a) (hb0 : I64 b) (h : I64 (a + b)) :
    Calls Tryd.prog 41 #[.int .i64 19, .int .i64 a, .int .i64 b] w (Doc (vnum (a + b), 0) w) := by
  unfold I64 at ha hb0
  unfold I64 at h
  have g : (decide (a ≤ a + b) == decide (0 ≤ b)) = true := dec_eq (by omega)
  obtain ⟨h1, h2⟩ := h
  clear ha hb0
  go_enter Tryd.func41, Tryd.ntmps41
  go_wp2_with fail
  refine (rnum _ _).mono ?_
  rintro e w1 ⟨rfl, hb⟩
  obtain ⟨hc, hf⟩ := bcell hb
  have B1 := Lib.hid (below_tr (below_al (Below.refl _ _) _) hb)
  have z0 : w.heap.size < w1.heap.size := by have := hb.size; simp at this; omega
  clear hb
  go_wp2_with fail
  exact bodyPost_ret (v := .agg #[.int .i64 1, .int .i64 (a + b), .string ⟨#[]⟩, .slice none 0 0, .int .i64 0]) (by simp [results, Tryd.results41, go_sem, hc, z0, vnum, vz, VL.kind, VL.num, VL.text]) rfl ⟨rfl, below_set5 B1.out (Nat.le_refl _) _ _ _ _ _⟩
set_option maxHeartbeats 2000000 in
theorem rk_add_out (a b : Int) (ha : I64 a) (hb0 : I64 b) (h : ¬ I64 (a + b)) :
    Calls Tryd.prog 41 #[.int .i64 19, .int .i64 a, .int .i64 b] w (Doc (vz, 8) w) := by
  unfold I64 at ha hb0
  unfold I64 at h
  have g : (decide (a ≤ wrap64 (a + b)) == decide (0 ≤ b)) = false := dec_ne (by unfold wrap64; omega)
  generalize hcc : wrap64 (a + b) = c at *
  clear ha hb0 h
  go_enter Tryd.func41, Tryd.ntmps41
  go_wp2_with fail
  refine (rbad _ _).mono ?_
  rintro e w1 ⟨rfl, hb⟩
  obtain ⟨hc, hf⟩ := bcell hb
  have B1 := Lib.hid (below_tr (below_al (Below.refl _ _) _) hb)
  have z0 : w.heap.size < w1.heap.size := by have := hb.size; simp at this; omega
  clear hb
  go_wp2_with fail
  exact bodyPost_ret (v := .agg #[.int .i64 0, .int .i64 0, .string ⟨#[]⟩, .slice none 0 0, .int .i64 8]) (by simp [results, Tryd.results41, go_sem, hc, z0, vnum, vz, VL.kind, VL.num, VL.text]) rfl ⟨rfl, below_set5 B1.out (Nat.le_refl _) _ _ _ _ _⟩
set_option maxHeartbeats 2000000 in
theorem rk_sub_in (a b : Int) (ha : I64 a) (hb0 : I64 b) (h : I64 (a - b)) :
    Calls Tryd.prog 41 #[.int .i64 20, .int .i64 a, .int .i64 b] w (Doc (vnum (a - b), 0) w) := by
  unfold I64 at ha hb0
  unfold I64 at h
  have g : (decide (a - b ≤ a) == decide (0 ≤ b)) = true := dec_eq (by omega)
  obtain ⟨h1, h2⟩ := h
  clear ha hb0
  go_enter Tryd.func41, Tryd.ntmps41
  go_wp2_with fail
  refine (rnum _ _).mono ?_
  rintro e w1 ⟨rfl, hb⟩
  obtain ⟨hc, hf⟩ := bcell hb
  have B1 := Lib.hid (below_tr (below_al (Below.refl _ _) _) hb)
  have z0 : w.heap.size < w1.heap.size := by have := hb.size; simp at this; omega
  clear hb
  go_wp2_with fail
  exact bodyPost_ret (v := .agg #[.int .i64 1, .int .i64 (a - b), .string ⟨#[]⟩, .slice none 0 0, .int .i64 0]) (by simp [results, Tryd.results41, go_sem, hc, z0, vnum, vz, VL.kind, VL.num, VL.text]) rfl ⟨rfl, below_set5 B1.out (Nat.le_refl _) _ _ _ _ _⟩
set_option maxHeartbeats 2000000 in
theorem rk_sub_out (a b : Int) (ha : I64 a) (hb0 : I64 b) (h : ¬ I64 (a - b)) :
    Calls Tryd.prog 41 #[.int .i64 20, .int .i64 a, .int .i64 b] w (Doc (vz, 8) w) := by
  unfold I64 at ha hb0
  unfold I64 at h
  have g : (decide (wrap64 (a - b) ≤ a) == decide (0 ≤ b)) = false := dec_ne (by unfold wrap64; omega)
  generalize hcc : wrap64 (a - b) = c at *
  clear ha hb0 h
  go_enter Tryd.func41, Tryd.ntmps41
  go_wp2_with fail
  refine (rbad _ _).mono ?_
  rintro e w1 ⟨rfl, hb⟩
  obtain ⟨hc, hf⟩ := bcell hb
  have B1 := Lib.hid (below_tr (below_al (Below.refl _ _) _) hb)
  have z0 : w.heap.size < w1.heap.size := by have := hb.size; simp at this; omega
  clear hb
  go_wp2_with fail
  exact bodyPost_ret (v := .agg #[.int .i64 0, .int .i64 0, .string ⟨#[]⟩, .slice none 0 0, .int .i64 8]) (by simp [results, Tryd.results41, go_sem, hc, z0, vnum, vz, VL.kind, VL.num, VL.text]) rfl ⟨rfl, below_set5 B1.out (Nat.le_refl _) _ _ _ _ _⟩
set_option maxHeartbeats 2000000 in
theorem rk_div0 (a b : Int) (ha : I64 a) (hb0 : I64 b) (h : b = 0) :
    Calls Tryd.prog 41 #[.int .i64 22, .int .i64 a, .int .i64 b] w (Doc (vz, 9) w) := by
  unfold I64 at ha hb0
  have g0 : (b == 0) = true := by simpa using h
  clear ha hb0 h
  go_enter Tryd.func41, Tryd.ntmps41
  go_wp2_with fail
  refine (rbad _ _).mono ?_
  rintro e w1 ⟨rfl, hb⟩
  obtain ⟨hc, hf⟩ := bcell hb
  have B1 := Lib.hid (below_tr (below_al (Below.refl _ _) _) hb)
  have z0 : w.heap.size < w1.heap.size := by have := hb.size; simp at this; omega
  clear hb
  go_wp2_with fail
  exact bodyPost_ret (v := .agg #[.int .i64 0, .int .i64 0, .string ⟨#[]⟩, .slice none 0 0, .int .i64 9]) (by simp [results, Tryd.results41, go_sem, hc, z0, vnum, vz, VL.kind, VL.num, VL.text]) rfl ⟨rfl, below_set5 B1.out (Nat.le_refl _) _ _ _ _ _⟩
set_option maxHeartbeats 2000000 in
theorem rk_mod0 (a b : Int) (ha : I64 a) (hb0 : I64 b) (h : b = 0) :
    Calls Tryd.prog 41 #[.int .i64 23, .int .i64 a, .int .i64 b] w (Doc (vz, 9) w) := by
  unfold I64 at ha hb0
  have g0 : (b == 0) = true := by simpa using h
  clear ha hb0 h
  go_enter Tryd.func41, Tryd.ntmps41
  go_wp2_with fail
  refine (rbad _ _).mono ?_
  rintro e w1 ⟨rfl, hb⟩
  obtain ⟨hc, hf⟩ := bcell hb
  have B1 := Lib.hid (below_tr (below_al (Below.refl _ _) _) hb)
  have z0 : w.heap.size < w1.heap.size := by have := hb.size; simp at this; omega
  clear hb
  go_wp2_with fail
  exact bodyPost_ret (v := .agg #[.int .i64 0, .int .i64 0, .string ⟨#[]⟩, .slice none 0 0, .int .i64 9]) (by simp [results, Tryd.results41, go_sem, hc, z0, vnum, vz, VL.kind, VL.num, VL.text]) rfl ⟨rfl, below_set5 B1.out (Nat.le_refl _) _ _ _ _ _⟩
set_option maxHeartbeats 2000000 in
theorem rk_mul_a0 (a b : Int) (ha : I64 a) (hb0 : I64 b) (h : a = 0) :
    Calls Tryd.prog 41 #[.int .i64 21, .int .i64 a, .int .i64 b] w (Doc (vnum 0, 0) w) := by
  unfold I64 at ha hb0
  have g0 : (a == 0) = true := by simpa using h
  have hw : wrap64 (a * b) = 0 := by rw [h]; simp [wrap64]
  clear ha hb0 h
  go_enter Tryd.func41, Tryd.ntmps41
  go_wp2_with fail
  refine (rnum _ _).mono ?_
  rintro e w1 ⟨rfl, hb⟩
  obtain ⟨hc, hf⟩ := bcell hb
  have B1 := Lib.hid (below_tr (below_al (Below.refl _ _) _) hb)
  have z0 : w.heap.size < w1.heap.size := by have := hb.size; simp at this; omega
  clear hb
  go_wp2_with fail
  exact bodyPost_ret (v := .agg #[.int .i64 1, .int .i64 0, .string ⟨#[]⟩, .slice none 0 0, .int .i64 0]) (by simp [results, Tryd.results41, go_sem, hc, z0, vnum, vz, VL.kind, VL.num, VL.text]) rfl ⟨rfl, below_set5 B1.out (Nat.le_refl _) _ _ _ _ _⟩
set_option maxHeartbeats 2000000 in
theorem rk_mul_b0 (a b : Int) (ha : I64 a) (hb0 : I64 b) (h0 : ¬ a = 0) (h : b = 0) :
    Calls Tryd.prog 41 #[.int .i64 21, .int .i64 a, .int .i64 b] w (Doc (vnum 0, 0) w) := by
  unfold I64 at ha hb0
  have g0 : (a == 0) = false := by simpa using h0
  have g1 : (b == 0) = true := by simpa using h
  have hw : wrap64 (a * b) = 0 := by rw [h]; simp [wrap64]
  clear ha hb0 h h0
  go_enter Tryd.func41, Tryd.ntmps41
  go_wp2_with fail
  refine (rnum _ _).mono ?_
  rintro e w1 ⟨rfl, hb⟩
  obtain ⟨hc, hf⟩ := bcell hb
  have B1 := Lib.hid (below_tr (below_al (Below.refl _ _) _) hb)
  have z0 : w.heap.size < w1.heap.size := by have := hb.size; simp at this; omega
  clear hb
  go_wp2_with fail
  exact bodyPost_ret (v := .agg #[.int .i64 1, .int .i64 0, .string ⟨#[]⟩, .slice none 0 0, .int .i64 0]) (by simp [results, Tryd.results41, go_sem, hc, z0, vnum, vz, VL.kind, VL.num, VL.text]) rfl ⟨rfl, below_set5 B1.out (Nat.le_refl _) _ _ _ _ _⟩
set_option maxHeartbeats 2000000 in
theorem rk_mul_in (a b : Int) (ha : I64 a) (hb0 : I64 b) (h0 : ¬ a = 0) (h1 : ¬ b = 0) (hne : ¬ b = -1) (h : I64 (a * b)) :
    Calls Tryd.prog 41 #[.int .i64 21, .int .i64 a, .int .i64 b] w (Doc (vnum (a * b), 0) w) := by
  unfold I64 at ha hb0
  have g0 : (a == 0) = false := by simpa using h0
  have g1 : (b == 0) = false := by simpa using h1
  have g2 : (b == -1) = false := by simpa using hne
  have e : wrap64 a = a := wrap_in ha
  unfold I64 at h
  obtain ⟨hm1, hm2⟩ := h
  clear ha hb0 h0 hne
  go_enter Tryd.func41, Tryd.ntmps41
  go_wp2_with fail
  refine (rnum _ _).mono ?_
  rintro e w1 ⟨rfl, hb⟩
  obtain ⟨hc, hf⟩ := bcell hb
  have B1 := Lib.hid (below_tr (below_al (Below.refl _ _) _) hb)
  have z0 : w.heap.size < w1.heap.size := by have := hb.size; simp at this; omega
  clear hb
  go_wp2_with fail
  exact bodyPost_ret (v := .agg #[.int .i64 1, .int .i64 (a * b), .string ⟨#[]⟩, .slice none 0 0, .int .i64 0]) (by simp [results, Tryd.results41, go_sem, hc, z0, vnum, vz, VL.kind, VL.num, VL.text]) rfl ⟨rfl, below_set5 B1.out (Nat.le_refl _) _ _ _ _ _⟩
set_option maxHeartbeats 2000000 in
theorem rk_mul_m1 (a b : Int) (ha : I64 a) (hb0 : I64 b) (h0 : ¬ a = 0) (hb1 : b = -1) (hl : ¬ a = -9223372036854775808) :
    Calls Tryd.prog 41 #[.int .i64 21, .int .i64 a, .int .i64 b] w (Doc (vnum (a * b), 0) w) := by
  unfold I64 at ha hb0
  have h1 : ¬ b = 0 := by omega
  have g0 : (a == 0) = false := by simpa using h0
  have g1 : (b == 0) = false := by simpa using h1
  have g2 : (b == -1) = true := by simpa using hb1
  have g3 : (a == -9223372036854775808) = false := by simpa using hl
  have hm : a * b = -a := by rw [hb1]; omega
  have e : wrap64 a = a := wrap_in ha
  have hm1 : -9223372036854775808 ≤ a * b := by omega
  have hm2 : a * b ≤ 9223372036854775807 := by omega
  clear ha hb0 h0 hm hb1 hl
  go_enter Tryd.func41, Tryd.ntmps41
  go_wp2_with fail
  refine (rnum _ _).mono ?_
  rintro e w1 ⟨rfl, hb⟩
  obtain ⟨hc, hf⟩ := bcell hb
  have B1 := Lib.hid (below_tr (below_al (Below.refl _ _) _) hb)
  have z0 : w.heap.size < w1.heap.size := by have := hb.size; simp at this; omega
  clear hb
  go_wp2_with fail
  exact bodyPost_ret (v := .agg #[.int .i64 1, .int .i64 (a * b), .string ⟨#[]⟩, .slice none 0 0, .int .i64 0]) (by simp [results, Tryd.results41, go_sem, hc, z0, vnum, vz, VL.kind, VL.num, VL.text]) rfl ⟨rfl, below_set5 B1.out (Nat.le_refl _) _ _ _ _ _⟩
set_option maxHeartbeats 2000000 in
theorem rk_mul_out (a b : Int) (ha : I64 a) (hb0 : I64 b) (h0 : ¬ a = 0) (h1 : ¬ b = 0) (hne : ¬ b = -1) (h : ¬ I64 (a * b)) :
    Calls Tryd.prog 41 #[.int .i64 21, .int .i64 a, .int .i64 b] w (Doc (vz, 8) w) := by
  unfold I64 at ha hb0
  have g0 : (a == 0) = false := by simpa using h0
  have g1 : (b == 0) = false := by simpa using h1
  obtain ⟨hq, hi⟩ := mul_quot (a := b) (b := a) hb0 h1 hne
  rw [Int.mul_comm b a] at hq hi
  have e : (wrap64 ((wrap64 (a * b)).tdiv b) == a) = false := by
    rw [wrap_in hq]; simp; exact fun e => h (hi.1 e)
  clear ha hb0 h0 hne hq hi h
  go_enter Tryd.func41, Tryd.ntmps41
  go_wp2_with fail
  refine (rbad _ _).mono ?_
  rintro e w1 ⟨rfl, hb⟩
  obtain ⟨hc, hf⟩ := bcell hb
  have B1 := Lib.hid (below_tr (below_al (Below.refl _ _) _) hb)
  have z0 : w.heap.size < w1.heap.size := by have := hb.size; simp at this; omega
  clear hb
  go_wp2_with fail
  exact bodyPost_ret (v := .agg #[.int .i64 0, .int .i64 0, .string ⟨#[]⟩, .slice none 0 0, .int .i64 8]) (by simp [results, Tryd.results41, go_sem, hc, z0, vnum, vz, VL.kind, VL.num, VL.text]) rfl ⟨rfl, below_set5 B1.out (Nat.le_refl _) _ _ _ _ _⟩
set_option maxHeartbeats 2000000 in
theorem rk_mul_least : Calls Tryd.prog 41 #[.int .i64 21, .int .i64 (-9223372036854775808), .int .i64 (-1)] w (Doc (vz, 8) w) := by
  have e1 : wrap64 9223372036854775808 = -9223372036854775808 := by unfold wrap64; omega
  go_enter Tryd.func41, Tryd.ntmps41
  go_wp2_with fail
  refine (rbad _ _).mono ?_
  rintro e w1 ⟨rfl, hb⟩
  obtain ⟨hc, hf⟩ := bcell hb
  have B1 := Lib.hid (below_tr (below_al (Below.refl _ _) _) hb)
  have z0 : w.heap.size < w1.heap.size := by have := hb.size; simp at this; omega
  clear hb
  go_wp2_with fail
  exact bodyPost_ret (v := .agg #[.int .i64 0, .int .i64 0, .string ⟨#[]⟩, .slice none 0 0, .int .i64 8]) (by simp [results, Tryd.results41, go_sem, hc, z0, vnum, vz, VL.kind, VL.num, VL.text]) rfl ⟨rfl, below_set5 B1.out (Nat.le_refl _) _ _ _ _ _⟩
set_option maxHeartbeats 2000000 in
theorem rk_div_least : Calls Tryd.prog 41 #[.int .i64 22, .int .i64 (-9223372036854775808), .int .i64 (-1)] w (Doc (vz, 8) w) := by
  go_enter Tryd.func41, Tryd.ntmps41
  go_wp2_with fail
  refine (rbad _ _).mono ?_
  rintro e w1 ⟨rfl, hb⟩
  obtain ⟨hc, hf⟩ := bcell hb
  have B1 := Lib.hid (below_tr (below_al (Below.refl _ _) _) hb)
  have z0 : w.heap.size < w1.heap.size := by have := hb.size; simp at this; omega
  clear hb
  go_wp2_with fail
  exact bodyPost_ret (v := .agg #[.int .i64 0, .int .i64 0, .string ⟨#[]⟩, .slice none 0 0, .int .i64 8]) (by simp [results, Tryd.results41, go_sem, hc, z0, vnum, vz, VL.kind, VL.num, VL.text]) rfl ⟨rfl, below_set5 B1.out (Nat.le_refl _) _ _ _ _ _⟩
set_option maxHeartbeats 2000000 in
theorem rk_mod_least : Calls Tryd.prog 41 #[.int .i64 23, .int .i64 (-9223372036854775808), .int .i64 (-1)] w (Doc (vnum 0, 0) w) := by
  go_enter Tryd.func41, Tryd.ntmps41
  go_wp2_with fail
  refine (rnum _ _).mono ?_
  rintro e w1 ⟨rfl, hb⟩
  obtain ⟨hc, hf⟩ := bcell hb
  have B1 := Lib.hid (below_tr (below_al (Below.refl _ _) _) hb)
  have z0 : w.heap.size < w1.heap.size := by have := hb.size; simp at this; omega
  clear hb
  go_wp2_with fail
  exact bodyPost_ret (v := .agg #[.int .i64 1, .int .i64 0, .string ⟨#[]⟩, .slice none 0 0, .int .i64 0]) (by simp [results, Tryd.results41, go_sem, hc, z0, vnum, vz, VL.kind, VL.num, VL.text]) rfl ⟨rfl, below_set5 B1.out (Nat.le_refl _) _ _ _ _ _⟩
set_option maxHeartbeats 2000000 in
theorem rk_div_x (a b : Int) (ha : I64 a) (hb0 : I64 b) (h1 : ¬ b = 0) (h : ¬ (a = -9223372036854775808 ∧ b = -1)) (hl : a = -9223372036854775808) :
    Calls Tryd.prog 41 #[.int .i64 22, .int .i64 a, .int .i64 b] w (Doc (vnum (a.tdiv b), 0) w) := by
  unfold I64 at ha hb0
  have g0 : (b == 0) = false := by simpa using h1
  have hq := quo_in ha h
  have E := Lib.hid (wrap_in hq)
  have g3 : (a == -9223372036854775808) = true := by simpa using hl
  have g2 : (b == -1) = false := by simp; exact fun e => h ⟨hl, e⟩
  have hq1 := hq.1
  have hq2 := hq.2
  rw [← E.out]
  have E2 : wrap64 (wrap64 (a.tdiv b)) = wrap64 (a.tdiv b) := wrap_in (wrap_range _)
  clear ha hb0 h hl hq E hq1 hq2
  go_enter Tryd.func41, Tryd.ntmps41
  go_wp2_with fail
  refine (rnum _ _).mono ?_
  rintro e w1 ⟨rfl, hb⟩
  obtain ⟨hc, hf⟩ := bcell hb
  have B1 := Lib.hid (below_tr (below_al (Below.refl _ _) _) hb)
  have z0 : w.heap.size < w1.heap.size := by have := hb.size; simp at this; omega
  clear hb
  go_wp2_with fail
  exact bodyPost_ret (v := .agg #[.int .i64 1, .int .i64 (wrap64 (a.tdiv b)), .string ⟨#[]⟩, .slice none 0 0, .int .i64 0]) (by simp [results, Tryd.results41, go_sem, hc, z0, vnum, vz, VL.kind, VL.num, VL.text]) rfl ⟨rfl, below_set5 B1.out (Nat.le_refl _) _ _ _ _ _⟩
set_option maxHeartbeats 2000000 in
theorem rk_div_y (a b : Int) (ha : I64 a) (hb0 : I64 b) (h1 : ¬ b = 0) (h : ¬ (a = -9223372036854775808 ∧ b = -1)) (hl : ¬ a = -9223372036854775808) :
    Calls Tryd.prog 41 #[.int .i64 22, .int .i64 a, .int .i64 b] w (Doc (vnum (a.tdiv b), 0) w) := by
  unfold I64 at ha hb0
  have g0 : (b == 0) = false := by simpa using h1
  have hq := quo_in ha h
  have E := Lib.hid (wrap_in hq)
  have g3 : (a == -9223372036854775808) = false := by simpa using hl
  rw [← E.out]
  have E2 : wrap64 (wrap64 (a.tdiv b)) = wrap64 (a.tdiv b) := wrap_in (wrap_range _)
  clear ha hb0 h hl hq E
  go_enter Tryd.func41, Tryd.ntmps41
  go_wp2_with fail
  refine (rnum _ _).mono ?_
  rintro e w1 ⟨rfl, hb⟩
  obtain ⟨hc, hf⟩ := bcell hb
  have B1 := Lib.hid (below_tr (below_al (Below.refl _ _) _) hb)
  have z0 : w.heap.size < w1.heap.size := by have := hb.size; simp at this; omega
  clear hb
  go_wp2_with fail
  exact bodyPost_ret (v := .agg #[.int .i64 1, .int .i64 (wrap64 (a.tdiv b)), .string ⟨#[]⟩, .slice none 0 0, .int .i64 0]) (by simp [results, Tryd.results41, go_sem, hc, z0, vnum, vz, VL.kind, VL.num, VL.text]) rfl ⟨rfl, below_set5 B1.out (Nat.le_refl _) _ _ _ _ _⟩
set_option maxHeartbeats 2000000 in
theorem rk_mod_x (a b : Int) (ha : I64 a) (hb0 : I64 b) (h1 : ¬ b = 0) (h : ¬ (a = -9223372036854775808 ∧ b = -1)) (hl : a = -9223372036854775808) :
    Calls Tryd.prog 41 #[.int .i64 23, .int .i64 a, .int .i64 b] w (Doc (vnum (a.tmod b), 0) w) := by
  unfold I64 at ha hb0
  have g0 : (b == 0) = false := by simpa using h1
  have g3 : (a == -9223372036854775808) = true := by simpa using hl
  have g2 : (b == -1) = false := by simp; exact fun e => h ⟨hl, e⟩
  clear ha hb0 h hl
  go_enter Tryd.func41, Tryd.ntmps41
  go_wp2_with fail
  refine (rnum _ _).mono ?_
  rintro e w1 ⟨rfl, hb⟩
  obtain ⟨hc, hf⟩ := bcell hb
  have B1 := Lib.hid (below_tr (below_al (Below.refl _ _) _) hb)
  have z0 : w.heap.size < w1.heap.size := by have := hb.size; simp at this; omega
  clear hb
  go_wp2_with fail
  exact bodyPost_ret (v := .agg #[.int .i64 1, .int .i64 (a.tmod b), .string ⟨#[]⟩, .slice none 0 0, .int .i64 0]) (by simp [results, Tryd.results41, go_sem, hc, z0, vnum, vz, VL.kind, VL.num, VL.text]) rfl ⟨rfl, below_set5 B1.out (Nat.le_refl _) _ _ _ _ _⟩
set_option maxHeartbeats 2000000 in
theorem rk_mod_y (a b : Int) (ha : I64 a) (hb0 : I64 b) (h1 : ¬ b = 0) (h : ¬ (a = -9223372036854775808 ∧ b = -1)) (hl : ¬ a = -9223372036854775808) :
    Calls Tryd.prog 41 #[.int .i64 23, .int .i64 a, .int .i64 b] w (Doc (vnum (a.tmod b), 0) w) := by
  unfold I64 at ha hb0
  have g0 : (b == 0) = false := by simpa using h1
  have g3 : (a == -9223372036854775808) = false := by simpa using hl
  clear ha hb0 h hl
  go_enter Tryd.func41, Tryd.ntmps41
  go_wp2_with fail
  refine (rnum _ _).mono ?_
  rintro e w1 ⟨rfl, hb⟩
  obtain ⟨hc, hf⟩ := bcell hb
  have B1 := Lib.hid (below_tr (below_al (Below.refl _ _) _) hb)
  have z0 : w.heap.size < w1.heap.size := by have := hb.size; simp at this; omega
  clear hb
  go_wp2_with fail
  exact bodyPost_ret (v := .agg #[.int .i64 1, .int .i64 (a.tmod b), .string ⟨#[]⟩, .slice none 0 0, .int .i64 0]) (by simp [results, Tryd.results41, go_sem, hc, z0, vnum, vz, VL.kind, VL.num, VL.text]) rfl ⟨rfl, below_set5 B1.out (Nat.le_refl _) _ _ _ _ _⟩
theorem rreckon (k a b : Int) (hk : 19 ≤ k ∧ k ≤ 23) (ha : I64 a) (hb : I64 b) : Calls Tryd.prog 41 #[.int .i64 k, .int .i64 a, .int .i64 b] w (Doc (numR (reckonR k a b)) w) := by
  have hk2 : k = 19 ∨ k = 20 ∨ k = 21 ∨ k = 22 ∨ k = 23 := by omega
  clear hk
  rcases hk2 with rfl | rfl | rfl | rfl | rfl
  · by_cases h : I64 (a + b)
    · rw [show reckonR 19 a b = (a + b, 0) from fit_in h]; exact rk_add_in w a b ha hb h
    · rw [show reckonR 19 a b = (0, 8) from fit_out h]; exact rk_add_out w a b ha hb h
  · by_cases h : I64 (a - b)
    · rw [show reckonR 20 a b = (a - b, 0) from fit_in h]; exact rk_sub_in w a b ha hb h
    · rw [show reckonR 20 a b = (0, 8) from fit_out h]; exact rk_sub_out w a b ha hb h
  · show Calls _ _ _ w (Doc (numR (fitR (a * b))) w)
    by_cases h0 : a = 0
    · rw [show fitR (a * b) = (0, 0) by rw [h0, Int.zero_mul]; rfl]; exact rk_mul_a0 w a b ha hb h0
    · by_cases h1 : b = 0
      · rw [show fitR (a * b) = (0, 0) by rw [h1, Int.mul_zero]; rfl]; exact rk_mul_b0 w a b ha hb h0 h1
      · by_cases hne : b = -1
        · by_cases hl : a = -9223372036854775808
          · subst hne; subst hl
            exact rk_mul_least w
          · rw [fit_in (by unfold I64 at ha; rw [hne]; omega)]; exact rk_mul_m1 w a b ha hb h0 hne hl
        · by_cases h : I64 (a * b)
          · rw [fit_in h]; exact rk_mul_in w a b ha hb h0 h1 hne h
          · rw [fit_out h]; exact rk_mul_out w a b ha hb h0 h1 hne h
  · show Calls _ _ _ w (Doc (numR (quoR a b)) w)
    by_cases h1 : b = 0
    · rw [show quoR a b = (0, 9) from if_pos h1]; exact rk_div0 w a b ha hb h1
    · by_cases h : a = -9223372036854775808 ∧ b = -1
      · obtain ⟨rfl, rfl⟩ := h
        exact rk_div_least w
      · rw [show quoR a b = (a.tdiv b, 0) by unfold quoR; rw [if_neg h1]; exact fit_in (quo_in ha h)]
        by_cases hl : a = -9223372036854775808
        · exact rk_div_x w a b ha hb h1 h hl
        · exact rk_div_y w a b ha hb h1 h hl
  · show Calls _ _ _ w (Doc (numR (modR a b)) w)
    by_cases h1 : b = 0
    · rw [show modR a b = (0, 9) from if_pos h1]; exact rk_mod0 w a b ha hb h1
    · rw [show modR a b = (a.tmod b, 0) from if_neg h1]
      by_cases h : a = -9223372036854775808 ∧ b = -1
      · obtain ⟨rfl, rfl⟩ := h
        exact rk_mod_least w
      · by_cases hl : a = -9223372036854775808
        · exact rk_mod_x w a b ha hb h1 h hl
        · exact rk_mod_y w a b ha hb h1 h hl
end
end Go.Proofs.YtmmdjpogepjdaaaDoor
