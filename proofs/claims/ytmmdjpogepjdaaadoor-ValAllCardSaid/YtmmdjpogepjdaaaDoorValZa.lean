/- The document's Two, whole. -/
import Derived.Test.YtmmdjpogepjdaaaDoorValZ
namespace Go.Proofs.YtmmdjpogepjdaaaDoor
open Go.RowKit
set_option linter.unusedVariables false
set_option linter.unusedSimpArgs false

section
variable (w : World)
set_option maxRecDepth 20000
set_option maxHeartbeats 4000000 in
theorem rt_b (k : Int) (a b : VL) (lao lao2 : Option Addr) (ln lcap ln2 lcap2 : Nat) (hk : k = 11 ∨ k = 12) (h3 : a.kind = 3) (h : b.kind = 3) :
    Calls Tryd.prog 20 #[.int .i64 k, .agg #[.int .i64 a.kind, .int .i64 a.num, .string a.text, .slice lao ln lcap], .agg #[.int .i64 b.kind, .int .i64 b.num, .string b.text, .slice lao2 ln2 lcap2]] w (Doc (vbool (joinedB k (a.num == 1) (b.num == 1)), 0) w) := by
  have g1 : (a.kind == 1) = false := by simp [h3]
  have g : (a.kind != 3) = false := by simpa using h3
  have g2 : (b.kind != 3) = false := by simpa using h
  clear h h3
  rcases hk with rfl | rfl
  · cases e1 : (a.num == 1) <;> cases e2 : (b.num == 1)
    · go_enter Tryd.func20, Tryd.ntmps20
      go_wp2_with fail
      refine (rtruth _ _).mono ?_
      rintro e w1 ⟨rfl, hb⟩
      obtain ⟨hc, hf⟩ := bcell hb
      have B1 := Lib.hid (below_tr (below_al (below_al (below_al (Below.refl _ _) _) _) _) hb)
      have z0 : w.heap.size + 1 + 1 < w1.heap.size := by have := hb.size; simp at this; omega
      clear hb
      go_wp2_with fail
      exact bodyPost_ret (v := .agg #[.int .i64 3, .int .i64 0, .string ⟨#[]⟩, .slice none 0 0, .int .i64 0]) (by simp [results, Tryd.results20, go_sem, hc, z0, vnum, vz, vbool, VL.kind, VL.num, VL.text]) rfl ⟨rfl, below_set5 B1.out (by omega) _ _ _ _ _⟩
    · go_enter Tryd.func20, Tryd.ntmps20
      go_wp2_with fail
      refine (rtruth _ _).mono ?_
      rintro e w1 ⟨rfl, hb⟩
      obtain ⟨hc, hf⟩ := bcell hb
      have B1 := Lib.hid (below_tr (below_al (below_al (below_al (Below.refl _ _) _) _) _) hb)
      have z0 : w.heap.size + 1 + 1 < w1.heap.size := by have := hb.size; simp at this; omega
      clear hb
      go_wp2_with fail
      exact bodyPost_ret (v := .agg #[.int .i64 3, .int .i64 1, .string ⟨#[]⟩, .slice none 0 0, .int .i64 0]) (by simp [results, Tryd.results20, go_sem, hc, z0, vnum, vz, vbool, VL.kind, VL.num, VL.text]) rfl ⟨rfl, below_set5 B1.out (by omega) _ _ _ _ _⟩
    · go_enter Tryd.func20, Tryd.ntmps20
      go_wp2_with fail
      refine (rtruth _ _).mono ?_
      rintro e w1 ⟨rfl, hb⟩
      obtain ⟨hc, hf⟩ := bcell hb
      have B1 := Lib.hid (below_tr (below_al (below_al (below_al (Below.refl _ _) _) _) _) hb)
      have z0 : w.heap.size + 1 + 1 < w1.heap.size := by have := hb.size; simp at this; omega
      clear hb
      go_wp2_with fail
      exact bodyPost_ret (v := .agg #[.int .i64 3, .int .i64 1, .string ⟨#[]⟩, .slice none 0 0, .int .i64 0]) (by simp [results, Tryd.results20, go_sem, hc, z0, vnum, vz, vbool, VL.kind, VL.num, VL.text]) rfl ⟨rfl, below_set5 B1.out (by omega) _ _ _ _ _⟩
    · go_enter Tryd.func20, Tryd.ntmps20
      go_wp2_with fail
      refine (rtruth _ _).mono ?_
      rintro e w1 ⟨rfl, hb⟩
      obtain ⟨hc, hf⟩ := bcell hb
      have B1 := Lib.hid (below_tr (below_al (below_al (below_al (Below.refl _ _) _) _) _) hb)
      have z0 : w.heap.size + 1 + 1 < w1.heap.size := by have := hb.size; simp at this; omega
      clear hb
      go_wp2_with fail
      exact bodyPost_ret (v := .agg #[.int .i64 3, .int .i64 1, .string ⟨#[]⟩, .slice none 0 0, .int .i64 0]) (by simp [results, Tryd.results20, go_sem, hc, z0, vnum, vz, vbool, VL.kind, VL.num, VL.text]) rfl ⟨rfl, below_set5 B1.out (by omega) _ _ _ _ _⟩
  · cases e1 : (a.num == 1) <;> cases e2 : (b.num == 1)
    · go_enter Tryd.func20, Tryd.ntmps20
      go_wp2_with fail
      refine (rtruth _ _).mono ?_
      rintro e w1 ⟨rfl, hb⟩
      obtain ⟨hc, hf⟩ := bcell hb
      have B1 := Lib.hid (below_tr (below_al (below_al (below_al (Below.refl _ _) _) _) _) hb)
      have z0 : w.heap.size + 1 + 1 < w1.heap.size := by have := hb.size; simp at this; omega
      clear hb
      go_wp2_with fail
      exact bodyPost_ret (v := .agg #[.int .i64 3, .int .i64 0, .string ⟨#[]⟩, .slice none 0 0, .int .i64 0]) (by simp [results, Tryd.results20, go_sem, hc, z0, vnum, vz, vbool, VL.kind, VL.num, VL.text]) rfl ⟨rfl, below_set5 B1.out (by omega) _ _ _ _ _⟩
    · go_enter Tryd.func20, Tryd.ntmps20
      go_wp2_with fail
      refine (rtruth _ _).mono ?_
      rintro e w1 ⟨rfl, hb⟩
      obtain ⟨hc, hf⟩ := bcell hb
      have B1 := Lib.hid (below_tr (below_al (below_al (below_al (Below.refl _ _) _) _) _) hb)
      have z0 : w.heap.size + 1 + 1 < w1.heap.size := by have := hb.size; simp at this; omega
      clear hb
      go_wp2_with fail
      exact bodyPost_ret (v := .agg #[.int .i64 3, .int .i64 0, .string ⟨#[]⟩, .slice none 0 0, .int .i64 0]) (by simp [results, Tryd.results20, go_sem, hc, z0, vnum, vz, vbool, VL.kind, VL.num, VL.text]) rfl ⟨rfl, below_set5 B1.out (by omega) _ _ _ _ _⟩
    · go_enter Tryd.func20, Tryd.ntmps20
      go_wp2_with fail
      refine (rtruth _ _).mono ?_
      rintro e w1 ⟨rfl, hb⟩
      obtain ⟨hc, hf⟩ := bcell hb
      have B1 := Lib.hid (below_tr (below_al (below_al (below_al (Below.refl _ _) _) _) _) hb)
      have z0 : w.heap.size + 1 + 1 < w1.heap.size := by have := hb.size; simp at this; omega
      clear hb
      go_wp2_with fail
      exact bodyPost_ret (v := .agg #[.int .i64 3, .int .i64 0, .string ⟨#[]⟩, .slice none 0 0, .int .i64 0]) (by simp [results, Tryd.results20, go_sem, hc, z0, vnum, vz, vbool, VL.kind, VL.num, VL.text]) rfl ⟨rfl, below_set5 B1.out (by omega) _ _ _ _ _⟩
    · go_enter Tryd.func20, Tryd.ntmps20
      go_wp2_with fail
      refine (rtruth _ _).mono ?_
      rintro e w1 ⟨rfl, hb⟩
      obtain ⟨hc, hf⟩ := bcell hb
      have B1 := Lib.hid (below_tr (below_al (below_al (below_al (Below.refl _ _) _) _) _) hb)
      have z0 : w.heap.size + 1 + 1 < w1.heap.size := by have := hb.size; simp at this; omega
      clear hb
      go_wp2_with fail
      exact bodyPost_ret (v := .agg #[.int .i64 3, .int .i64 1, .string ⟨#[]⟩, .slice none 0 0, .int .i64 0]) (by simp [results, Tryd.results20, go_sem, hc, z0, vnum, vz, vbool, VL.kind, VL.num, VL.text]) rfl ⟨rfl, below_set5 B1.out (by omega) _ _ _ _ _⟩
set_option maxHeartbeats 4000000 in
theorem rt_e (D : Nat) (k : Int) (a b : VL) (la lb : Value) (ha : RowRd w D a.kids la) (hb0 : RowRd w D b.kids lb) (hk : k = 13 ∨ k = 14) (h : a.kind = b.kind) :
    Calls Tryd.prog 20 #[.int .i64 k, .agg #[.int .i64 a.kind, .int .i64 a.num, .string a.text, la], .agg #[.int .i64 b.kind, .int .i64 b.num, .string b.text, lb]] w (Doc (vbool (sameB D a b == (k == 13)), 0) w) := by
  have g : (a.kind != b.kind) = false := by simpa using h
  have C := Lib.hid (fun W (hw : Below w.heap.size w W) => (rsame D).call a b la lb W (ha.below hw) (hb0.below hw))
  obtain ⟨lao, lcap, rfl⟩ := ha.shape
  obtain ⟨lao2, lcap2, rfl⟩ := hb0.shape
  clear h ha hb0
  generalize sameB D a b = sb at *
  cases e1 : (a.kind == 1) <;> cases e2 : (b.kind == 1) <;> rcases hk with rfl | rfl
  all_goals
    go_enter Tryd.func20, Tryd.ntmps20
    go_wp2_with fail
    refine (C.out _ ?_).mono ?_
    · exact below_al (below_al (below_al (Below.refl _ _) _) _) _
    rintro e w1 ⟨rfl, hb⟩
    obtain ⟨hc, hf⟩ := bcell hb
    have B1 := Lib.hid (below_tr (below_al (below_al (below_al (Below.refl _ _) _) _) _) hb)
    have z0 : w.heap.size + 1 + 1 < w1.heap.size := by have := hb.size; simp at this; omega
    clear hb
    go_wp2_with fail
    refine (rtruth _ _).mono ?_
    rintro e w2 ⟨rfl, hb⟩
    obtain ⟨hc2, hf2⟩ := bcell hb
    have B2 := Lib.hid (below_tr B1.out hb)
    clear hb
    go_wp2_with fail
    exact bodyPost_ret (v := .agg #[.int .i64 (vbool (sb == _)).kind, .int .i64 (vbool (sb == _)).num, .string (vbool (sb == _)).text, .slice none 0 0, .int .i64 0]) (by simp [results, Tryd.results20, go_sem, hc, hc2, z0]) rfl ⟨rfl, below_set5 B2.out (by omega) _ _ _ _ _⟩
theorem rtwo (D : Nat) (k : Int) (a b : VL) (la lb : Value) (ha : RowRd w D a.kids la) (hb : RowRd w D b.kids lb) (hi : I64 a.num) (hj : I64 b.num) :
    Calls Tryd.prog 20 #[.int .i64 k, .agg #[.int .i64 a.kind, .int .i64 a.num, .string a.text, la], .agg #[.int .i64 b.kind, .int .i64 b.num, .string b.text, lb]] w (Doc (twoR D k a b) w) := by
  unfold twoR
  have ha' := ha
  have hb' := hb
  obtain ⟨lao, lcap, rfl⟩ := ha.shape
  obtain ⟨lao2, lcap2, rfl⟩ := hb.shape
  by_cases h1 : k = 11 ∨ k = 12
  · rw [if_pos h1]
    by_cases hx : a.kind = 3
    · by_cases hy : b.kind = 3
      · rw [if_pos ⟨hx, hy⟩]; exact rt_b w k a b _ _ _ _ _ _ h1 hx hy
      · rw [if_neg (fun h => hy h.2)]; exact rt_bt2 w k a b _ _ _ _ _ _ h1 hx hy
    · rw [if_neg (fun h => hx h.1)]; exact rt_bt1 w k a b _ _ _ _ _ _ h1 hx
  · rw [if_neg h1]
    by_cases h2 : k = 13 ∨ k = 14
    · rw [if_pos h2]
      by_cases hq : a.kind = b.kind
      · rw [if_pos hq]; exact rt_e w D k a b _ _ ha' hb' h2 hq
      · rw [if_neg hq]; exact rt_et w k a b _ _ _ _ _ _ h2 hq
    · rw [if_neg h2]
      by_cases h3 : 15 ≤ k ∧ k ≤ 18
      · rw [if_pos h3]
        by_cases hx : a.kind = 1
        · by_cases hy : b.kind = 1
          · rw [if_pos ⟨hx, hy⟩]; exact rt_c w k a b _ _ _ _ _ _ (by omega) hx hy
          · rw [if_neg (fun h => hy h.2)]; exact rt_ct2 w k a b _ _ _ _ _ _ (by omega) hx hy
        · rw [if_neg (fun h => hx h.1)]; exact rt_ct1 w k a b _ _ _ _ _ _ (by omega) hx
      · rw [if_neg h3]
        by_cases h4 : 19 ≤ k ∧ k ≤ 23
        · rw [if_pos h4]
          by_cases hx : a.kind = 1
          · by_cases hy : b.kind = 1
            · rw [if_pos ⟨hx, hy⟩]; exact rt_n w k a b _ _ _ _ _ _ (by omega) hx hy hi hj
            · rw [if_neg (fun h => hy h.2)]; exact rt_ct2 w k a b _ _ _ _ _ _ (by omega) hx hy
          · rw [if_neg (fun h => hx h.1)]; exact rt_ct1 w k a b _ _ _ _ _ _ (by omega) hx
        · rw [if_neg h4]
          by_cases h5 : k < 11
          · exact rt_lo w k a b _ _ _ _ _ _ h5
          · exact rt_hi w k a b _ _ _ _ _ _ (by omega)
end
end Go.Proofs.YtmmdjpogepjdaaaDoor
