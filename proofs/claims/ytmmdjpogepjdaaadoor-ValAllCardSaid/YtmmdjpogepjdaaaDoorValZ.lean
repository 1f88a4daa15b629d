/- The document's Two. -/
import Derived.Test.YtmmdjpogepjdaaaDoorValY
import Derived.Test.YtmmdjpogepjdaaaDoorValG
namespace Go.Proofs.YtmmdjpogepjdaaaDoor
open Go.RowKit
set_option linter.unusedVariables false
set_option linter.unusedSimpArgs false

section
variable (w : World)
set_option maxRecDepth 20000
set_option maxHeartbeats 4000000 in
theorem rt_lo (k : Int) (a b : VL) (lao lao2 : Option Addr) (ln lcap ln2 lcap2 : Nat) (h : k < 11) :
    Calls Tryd.prog 20 #[.int .i64 k, .agg #[.int .i64 a.kind, .int .i64 a.num, .string a.text, .slice lao ln lcap], .agg #[.int .i64 b.kind, .int .i64 b.num, .string b.text, .slice lao2 ln2 lcap2]] w (Doc (vz, 1) w) := by
  cases e1 : (a.kind == 1) <;> cases e2 : (b.kind == 1)
  all_goals
    go_enter Tryd.func20, Tryd.ntmps20
    go_wp2_with fail
    refine (rbad _ _).mono ?_
    rintro e w1 ⟨rfl, hb⟩
    obtain ⟨hc, hf⟩ := bcell hb
    have B1 := Lib.hid (below_tr (below_al (below_al (below_al (Below.refl _ _) _) _) _) hb)
    have z0 : w.heap.size + 1 + 1 < w1.heap.size := by have := hb.size; simp at this; omega
    clear hb
    go_wp2_with fail
    exact bodyPost_ret (v := .agg #[.int .i64 0, .int .i64 0, .string ⟨#[]⟩, .slice none 0 0, .int .i64 1]) (by simp [results, Tryd.results20, go_sem, hc, z0, vnum, vz, vbool, VL.kind, VL.num, VL.text]) rfl ⟨rfl, below_set5 B1.out (by omega) _ _ _ _ _⟩
set_option maxHeartbeats 4000000 in
theorem rt_hi (k : Int) (a b : VL) (lao lao2 : Option Addr) (ln lcap ln2 lcap2 : Nat) (h : 23 < k) :
    Calls Tryd.prog 20 #[.int .i64 k, .agg #[.int .i64 a.kind, .int .i64 a.num, .string a.text, .slice lao ln lcap], .agg #[.int .i64 b.kind, .int .i64 b.num, .string b.text, .slice lao2 ln2 lcap2]] w (Doc (vz, 1) w) := by
  have h1 : ¬ k < 11 := by omega
  cases e1 : (a.kind == 1) <;> cases e2 : (b.kind == 1)
  all_goals
    go_enter Tryd.func20, Tryd.ntmps20
    go_wp2_with fail
    refine (rbad _ _).mono ?_
    rintro e w1 ⟨rfl, hb⟩
    obtain ⟨hc, hf⟩ := bcell hb
    have B1 := Lib.hid (below_tr (below_al (below_al (below_al (Below.refl _ _) _) _) _) hb)
    have z0 : w.heap.size + 1 + 1 < w1.heap.size := by have := hb.size; simp at this; omega
    clear hb
    go_wp2_with fail
    exact bodyPost_ret (v := .agg #[.int .i64 0, .int .i64 0, .string ⟨#[]⟩, .slice none 0 0, .int .i64 1]) (by simp [results, Tryd.results20, go_sem, hc, z0, vnum, vz, vbool, VL.kind, VL.num, VL.text]) rfl ⟨rfl, below_set5 B1.out (by omega) _ _ _ _ _⟩
set_option maxHeartbeats 4000000 in
theorem rt_bt1 (k : Int) (a b : VL) (lao lao2 : Option Addr) (ln lcap ln2 lcap2 : Nat) (hk : k = 11 ∨ k = 12) (h : ¬ a.kind = 3) :
    Calls Tryd.prog 20 #[.int .i64 k, .agg #[.int .i64 a.kind, .int .i64 a.num, .string a.text, .slice lao ln lcap], .agg #[.int .i64 b.kind, .int .i64 b.num, .string b.text, .slice lao2 ln2 lcap2]] w (Doc (vz, 7) w) := by
  have g : (a.kind != 3) = true := by simpa using h
  clear h
  cases e1 : (a.kind == 1) <;> cases e2 : (b.kind == 1) <;> rcases hk with rfl | rfl
  all_goals
    go_enter Tryd.func20, Tryd.ntmps20
    go_wp2_with fail
    refine (rbad _ _).mono ?_
    rintro e w1 ⟨rfl, hb⟩
    obtain ⟨hc, hf⟩ := bcell hb
    have B1 := Lib.hid (below_tr (below_al (below_al (below_al (Below.refl _ _) _) _) _) hb)
    have z0 : w.heap.size + 1 + 1 < w1.heap.size := by have := hb.size; simp at this; omega
    clear hb
    go_wp2_with fail
    exact bodyPost_ret (v := .agg #[.int .i64 0, .int .i64 0, .string ⟨#[]⟩, .slice none 0 0, .int .i64 7]) (by simp [results, Tryd.results20, go_sem, hc, z0, vnum, vz, vbool, VL.kind, VL.num, VL.text]) rfl ⟨rfl, below_set5 B1.out (by omega) _ _ _ _ _⟩
set_option maxHeartbeats 4000000 in
theorem rt_bt2 (k : Int) (a b : VL) (lao lao2 : Option Addr) (ln lcap ln2 lcap2 : Nat) (hk : k = 11 ∨ k = 12) (h3 : a.kind = 3) (h : ¬ b.kind = 3) :
    Calls Tryd.prog 20 #[.int .i64 k, .agg #[.int .i64 a.kind, .int .i64 a.num, .string a.text, .slice lao ln lcap], .agg #[.int .i64 b.kind, .int .i64 b.num, .string b.text, .slice lao2 ln2 lcap2]] w (Doc (vz, 7) w) := by
  have g1 : (a.kind == 1) = false := by simp [h3]
  have g : (a.kind != 3) = false := by simpa using h3
  have g2 : (b.kind != 3) = true := by simpa using h
  clear h h3
  rcases hk with rfl | rfl
  all_goals
    go_enter Tryd.func20, Tryd.ntmps20
    go_wp2_with fail
    refine (rbad _ _).mono ?_
    rintro e w1 ⟨rfl, hb⟩
    obtain ⟨hc, hf⟩ := bcell hb
    have B1 := Lib.hid (below_tr (below_al (below_al (below_al (Below.refl _ _) _) _) _) hb)
    have z0 : w.heap.size + 1 + 1 < w1.heap.size := by have := hb.size; simp at this; omega
    clear hb
    go_wp2_with fail
    exact bodyPost_ret (v := .agg #[.int .i64 0, .int .i64 0, .string ⟨#[]⟩, .slice none 0 0, .int .i64 7]) (by simp [results, Tryd.results20, go_sem, hc, z0, vnum, vz, vbool, VL.kind, VL.num, VL.text]) rfl ⟨rfl, below_set5 B1.out (by omega) _ _ _ _ _⟩
set_option maxHeartbeats 4000000 in
theorem rt_et (k : Int) (a b : VL) (lao lao2 : Option Addr) (ln lcap ln2 lcap2 : Nat) (hk : k = 13 ∨ k = 14) (h : ¬ a.kind = b.kind) :
    Calls Tryd.prog 20 #[.int .i64 k, .agg #[.int .i64 a.kind, .int .i64 a.num, .string a.text, .slice lao ln lcap], .agg #[.int .i64 b.kind, .int .i64 b.num, .string b.text, .slice lao2 ln2 lcap2]] w (Doc (vz, 7) w) := by
  have g : (a.kind != b.kind) = true := by simpa using h
  clear h
  cases e1 : (a.kind == 1) <;> cases e2 : (b.kind == 1) <;> rcases hk with rfl | rfl
  all_goals
    go_enter Tryd.func20, Tryd.ntmps20
    go_wp2_with fail
    refine (rbad _ _).mono ?_
    rintro e w1 ⟨rfl, hb⟩
    obtain ⟨hc, hf⟩ := bcell hb
    have B1 := Lib.hid (below_tr (below_al (below_al (below_al (Below.refl _ _) _) _) _) hb)
    have z0 : w.heap.size + 1 + 1 < w1.heap.size := by have := hb.size; simp at this; omega
    clear hb
    go_wp2_with fail
    exact bodyPost_ret (v := .agg #[.int .i64 0, .int .i64 0, .string ⟨#[]⟩, .slice none 0 0, .int .i64 7]) (by simp [results, Tryd.results20, go_sem, hc, z0, vnum, vz, vbool, VL.kind, VL.num, VL.text]) rfl ⟨rfl, below_set5 B1.out (by omega) _ _ _ _ _⟩
set_option maxHeartbeats 4000000 in
theorem rt_ct1 (k : Int) (a b : VL) (lao lao2 : Option Addr) (ln lcap ln2 lcap2 : Nat) (hk : 15 ≤ k ∧ k ≤ 23) (h : ¬ a.kind = 1) :
    Calls Tryd.prog 20 #[.int .i64 k, .agg #[.int .i64 a.kind, .int .i64 a.num, .string a.text, .slice lao ln lcap], .agg #[.int .i64 b.kind, .int .i64 b.num, .string b.text, .slice lao2 ln2 lcap2]] w (Doc (vz, 7) w) := by
  have g : (a.kind == 1) = false := by simpa using h
  have hk2 : k = 15 ∨ k = 16 ∨ k = 17 ∨ k = 18 ∨ k = 19 ∨ k = 20 ∨ k = 21 ∨ k = 22 ∨ k = 23 := by omega
  clear h hk
  rcases hk2 with rfl | rfl | rfl | rfl | rfl | rfl | rfl | rfl | rfl
  all_goals
    go_enter Tryd.func20, Tryd.ntmps20
    go_wp2_with fail
    refine (rbad _ _).mono ?_
    rintro e w1 ⟨rfl, hb⟩
    obtain ⟨hc, hf⟩ := bcell hb
    have B1 := Lib.hid (below_tr (below_al (below_al (below_al (Below.refl _ _) _) _) _) hb)
    have z0 : w.heap.size + 1 + 1 < w1.heap.size := by have := hb.size; simp at this; omega
    clear hb
    go_wp2_with fail
    exact bodyPost_ret (v := .agg #[.int .i64 0, .int .i64 0, .string ⟨#[]⟩, .slice none 0 0, .int .i64 7]) (by simp [results, Tryd.results20, go_sem, hc, z0, vnum, vz, vbool, VL.kind, VL.num, VL.text]) rfl ⟨rfl, below_set5 B1.out (by omega) _ _ _ _ _⟩
set_option maxHeartbeats 4000000 in
theorem rt_ct2 (k : Int) (a b : VL) (lao lao2 : Option Addr) (ln lcap ln2 lcap2 : Nat) (hk : 15 ≤ k ∧ k ≤ 23) (h1 : a.kind = 1) (h : ¬ b.kind = 1) :
    Calls Tryd.prog 20 #[.int .i64 k, .agg #[.int .i64 a.kind, .int .i64 a.num, .string a.text, .slice lao ln lcap], .agg #[.int .i64 b.kind, .int .i64 b.num, .string b.text, .slice lao2 ln2 lcap2]] w (Doc (vz, 7) w) := by
  have g1 : (a.kind == 1) = true := by simpa using h1
  have g : (b.kind == 1) = false := by simpa using h
  have hk2 : k = 15 ∨ k = 16 ∨ k = 17 ∨ k = 18 ∨ k = 19 ∨ k = 20 ∨ k = 21 ∨ k = 22 ∨ k = 23 := by omega
  clear h h1 hk
  rcases hk2 with rfl | rfl | rfl | rfl | rfl | rfl | rfl | rfl | rfl
  all_goals
    go_enter Tryd.func20, Tryd.ntmps20
    go_wp2_with fail
    refine (rbad _ _).mono ?_
    rintro e w1 ⟨rfl, hb⟩
    obtain ⟨hc, hf⟩ := bcell hb
    have B1 := Lib.hid (below_tr (below_al (below_al (below_al (Below.refl _ _) _) _) _) hb)
    have z0 : w.heap.size + 1 + 1 < w1.heap.size := by have := hb.size; simp at this; omega
    clear hb
    go_wp2_with fail
    exact bodyPost_ret (v := .agg #[.int .i64 0, .int .i64 0, .string ⟨#[]⟩, .slice none 0 0, .int .i64 7]) (by simp [results, Tryd.results20, go_sem, hc, z0, vnum, vz, vbool, VL.kind, VL.num, VL.text]) rfl ⟨rfl, below_set5 B1.out (by omega) _ _ _ _ _⟩
set_option maxHeartbeats 4000000 in
theorem rt_c (k : Int) (a b : VL) (lao lao2 : Option Addr) (ln lcap ln2 lcap2 : Nat) (hk : k = 15 ∨ k = 16 ∨ k = 17 ∨ k = 18) (h1 : a.kind = 1) (h : b.kind = 1) :
    Calls Tryd.prog 20 #[.int .i64 k, .agg #[.int .i64 a.kind, .int .i64 a.num, .string a.text, .slice lao ln lcap], .agg #[.int .i64 b.kind, .int .i64 b.num, .string b.text, .slice lao2 ln2 lcap2]] w (Doc (vbool (holdsB k a.num b.num), 0) w) := by
  have g1 : (a.kind == 1) = true := by simpa using h1
  have g : (b.kind == 1) = true := by simpa using h
  clear h h1
  rcases hk with rfl | rfl | rfl | rfl
  all_goals
    go_enter Tryd.func20, Tryd.ntmps20
    go_wp2_with fail
    refine (rtruth _ _).mono ?_
    rintro e w1 ⟨rfl, hb⟩
    obtain ⟨hc, hf⟩ := bcell hb
    have B1 := Lib.hid (below_tr (below_al (below_al (below_al (Below.refl _ _) _) _) _) hb)
    have z0 : w.heap.size + 1 + 1 < w1.heap.size := by have := hb.size; simp at this; omega
    clear hb
    go_wp2_with fail
    exact bodyPost_ret (v := .agg #[.int .i64 (vbool (holdsB _ a.num b.num)).kind, .int .i64 (vbool (holdsB _ a.num b.num)).num, .string (vbool (holdsB _ a.num b.num)).text, .slice none 0 0, .int .i64 0]) (by simp [results, Tryd.results20, go_sem, hc, z0, vnum, vz, vz, holdsB]) rfl ⟨rfl, below_set5 B1.out (by omega) _ _ _ _ _⟩
set_option maxHeartbeats 4000000 in
theorem rt_n (k : Int) (a b : VL) (lao lao2 : Option Addr) (ln lcap ln2 lcap2 : Nat) (hk : k = 19 ∨ k = 20 ∨ k = 21 ∨ k = 22 ∨ k = 23) (h1 : a.kind = 1) (h : b.kind = 1) (hi : I64 a.num) (hj : I64 b.num) :
    Calls Tryd.prog 20 #[.int .i64 k, .agg #[.int .i64 a.kind, .int .i64 a.num, .string a.text, .slice lao ln lcap], .agg #[.int .i64 b.kind, .int .i64 b.num, .string b.text, .slice lao2 ln2 lcap2]] w (Doc (numR (reckonR k a.num b.num)) w) := by
  have g1 : (a.kind == 1) = true := by simpa using h1
  have g : (b.kind == 1) = true := by simpa using h
  have HI := Lib.hid hi
  have HJ := Lib.hid hj
  clear h h1 hi hj
  rcases hk with rfl | rfl | rfl | rfl | rfl
  all_goals
    go_enter Tryd.func20, Tryd.ntmps20
    go_wp2_with fail
    refine (rreckon _ _ _ _ (by omega) HI.out HJ.out).mono ?_
    rintro e w1 ⟨rfl, hb⟩
    obtain ⟨hc, hf⟩ := bcell hb
    have B1 := Lib.hid (below_tr (below_al (below_al (below_al (Below.refl _ _) _) _) _) hb)
    have z0 : w.heap.size + 1 + 1 < w1.heap.size := by have := hb.size; simp at this; omega
    clear hb
    go_wp2_with fail
    exact bodyPost_ret (v := .agg #[.int .i64 (numR (reckonR _ a.num b.num)).1.kind, .int .i64 (numR (reckonR _ a.num b.num)).1.num, .string (numR (reckonR _ a.num b.num)).1.text, .slice none 0 0, .int .i64 (numR (reckonR _ a.num b.num)).2]) (by simp [results, Tryd.results20, go_sem, hc, z0, z0]) rfl ⟨rfl, below_set5 B1.out (by omega) _ _ _ _ _⟩
end
end Go.Proofs.YtmmdjpogepjdaaaDoor
