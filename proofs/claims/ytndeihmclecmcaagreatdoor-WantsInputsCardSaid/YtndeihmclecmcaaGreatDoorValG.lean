/- Package val: Two. -/
import Derived.Test.YtndeihmclecmcaaGreatDoorValD
import Derived.Test.YtndeihmclecmcaaGreatDoorValF
namespace Go.Proofs.YtndeihmclecmcaaGreatDoor
open Go.RowKit
set_option linter.unusedVariables false
set_option linter.unusedSimpArgs false

def twoR (D : Nat) (k : Int) (a b : VL) : VL × Int :=
  if k = 11 ∨ k = 12 then (if a.kind = 3 ∧ b.kind = 3 then (vbool (joinedB k (a.num == 1) (b.num == 1)), 0) else (vz, 7))
  else if k = 13 ∨ k = 14 then (if a.kind = b.kind then (vbool (sameB D a b == (k == 13)), 0) else (vz, 7))
  else if 15 ≤ k ∧ k ≤ 18 then (if a.kind = 1 ∧ b.kind = 1 then (vbool (holdsB k a.num b.num), 0) else (vz, 7))
  else if 19 ≤ k ∧ k ≤ 23 then (if a.kind = 1 ∧ b.kind = 1 then numR (reckonR k a.num b.num) else (vz, 7))
  else (vz, 1)
section
variable (w : World)
set_option maxRecDepth 20000
set_option maxHeartbeats 4000000 in
theorem vtwo_b (D : Nat) (k : Int) (a b : VL) (la lb : Value) (ha : RowRd w D a.kids la) (hb : RowRd w D b.kids lb) (hk : k = 11 ∨ k = 12) (hq : a.kind = 3 ∧ b.kind = 3) :
    Calls Tryz.prog 127 #[.int .i64 k, .agg #[.int .i64 a.kind, .int .i64 a.num, .string a.text, la], .agg #[.int .i64 b.kind, .int .i64 b.num, .string b.text, lb]] w (Told (vbool (joinedB k (a.num == 1) (b.num == 1)), 0) w) := by
  have HA := Lib.hid ha
  have HB := Lib.hid hb
  have AB := Lib.hid (show allB 3 [a, b] = true by simp [allB, hq.1, hq.2])
  obtain ⟨lao, lcap, rfl⟩ := ha.shape
  obtain ⟨lao2, lcap2, rfl⟩ := hb.shape
  clear ha hb hq
  rcases hk with rfl | rfl
  all_goals
    go_enter Tryz.func127, Tryz.ntmps127
    go_wp2_with fail
    (with_reducible refine (vall _ (D + 1) 3 [a, b] _ (row_two ?_ (HA.out.below (below_al (below_al (below_al (below_al (Below.refl w.heap.size w) _) _) _) _)) (HB.out.below (below_al (below_al (below_al (below_al (Below.refl w.heap.size w) _) _) _) _)))).mono ?_)
    · exact heap_at (by simp)
    rw [AB.out]
    rintro e w1 ⟨rfl, hb1⟩
    obtain ⟨hc, hf⟩ := bcell hb1
    have B1 := Lib.hid (below_tr (below_al (below_al (below_al (below_al (Below.refl w.heap.size w) _) _) _) _) hb1)
    have z0 : w.heap.size < w1.heap.size := by have := hb1.size; simp at this; omega
    have z1 : w.heap.size + 1 < w1.heap.size := by have := hb1.size; simp at this; omega
    have z2 : w.heap.size + 1 + 1 < w1.heap.size := by have := hb1.size; simp at this; omega
    clear hb1
    go_wp2_with fail
    with_reducible refine (vjoined _ _ _ _).mono ?_
    rintro e w2 ⟨rfl, hb2⟩
    obtain ⟨hc2, hf2⟩ := bcell hb2
    have B2 := Lib.hid (below_tr B1.out hb2)
    have y2 : w.heap.size + 1 + 1 < w2.heap.size := Nat.lt_of_lt_of_le z2 hb2.size
    clear hb2
    go_wp2_with fail
    with_reducible refine (vboolean _ _).mono ?_
    rintro e w3 ⟨rfl, hb3⟩
    obtain ⟨hc3, hf3⟩ := bcell hb3
    have B3 := Lib.hid (below_tr B2.out hb3)
    clear hb3
    go_wp2_with fail
    exact bodyPost_ret (v := .tuple #[.agg #[.int .i64 (vbool (joinedB _ (a.num == 1) (b.num == 1))).kind, .int .i64 (vbool (joinedB _ (a.num == 1) (b.num == 1))).num, .string (vbool (joinedB _ (a.num == 1) (b.num == 1))).text, .slice none 0 0], .int .i64 0]) (by simp [results, Tryz.results127, go_sem, hc, hc2, hc3, z0, z1, z2, y2]) rfl ⟨rfl, below_set4 (B3.out) (by omega) _ _ _ _⟩
set_option maxHeartbeats 4000000 in
theorem vtwo_bt (D : Nat) (k : Int) (a b : VL) (la lb : Value) (ha : RowRd w D a.kids la) (hb : RowRd w D b.kids lb) (hk : k = 11 ∨ k = 12) (hq : ¬ (a.kind = 3 ∧ b.kind = 3)) :
    Calls Tryz.prog 127 #[.int .i64 k, .agg #[.int .i64 a.kind, .int .i64 a.num, .string a.text, la], .agg #[.int .i64 b.kind, .int .i64 b.num, .string b.text, lb]] w (Told (vz, 7) w) := by
  have HA := Lib.hid ha
  have HB := Lib.hid hb
  have AB := Lib.hid (show allB 3 [a, b] = false by
    cases h : allB 3 [a, b] with
    | false => rfl
    | true => simp [allB] at h; exact absurd h hq)
  obtain ⟨lao, lcap, rfl⟩ := ha.shape
  obtain ⟨lao2, lcap2, rfl⟩ := hb.shape
  clear ha hb hq
  rcases hk with rfl | rfl
  all_goals
    go_enter Tryz.func127, Tryz.ntmps127
    go_wp2_with fail
    (with_reducible refine (vall _ (D + 1) 3 [a, b] _ (row_two ?_ (HA.out.below (below_al (below_al (below_al (below_al (Below.refl w.heap.size w) _) _) _) _)) (HB.out.below (below_al (below_al (below_al (below_al (Below.refl w.heap.size w) _) _) _) _)))).mono ?_)
    · exact heap_at (by simp)
    rw [AB.out]
    rintro e w1 ⟨rfl, hb1⟩
    obtain ⟨hc, hf⟩ := bcell hb1
    have B1 := Lib.hid (below_tr (below_al (below_al (below_al (below_al (Below.refl w.heap.size w) _) _) _) _) hb1)
    have z0 : w.heap.size < w1.heap.size := by have := hb1.size; simp at this; omega
    have z1 : w.heap.size + 1 < w1.heap.size := by have := hb1.size; simp at this; omega
    have z2 : w.heap.size + 1 + 1 < w1.heap.size := by have := hb1.size; simp at this; omega
    clear hb1
    go_wp2_with fail
    exact bodyPost_ret (v := .tuple #[.agg #[.int .i64 0, .int .i64 0, .string ⟨#[]⟩, .slice none 0 0], .int .i64 7]) (by simp [results, Tryz.results127, go_sem, hc, z0, z1, z2]) rfl ⟨rfl, below_set4 (B1.out) (by omega) _ _ _ _⟩
set_option maxHeartbeats 4000000 in
theorem vtwo_et (D : Nat) (k : Int) (a b : VL) (la lb : Value) (ha : RowRd w D a.kids la) (hb : RowRd w D b.kids lb) (hk : k = 13 ∨ k = 14) (hq : ¬ a.kind = b.kind) :
    Calls Tryz.prog 127 #[.int .i64 k, .agg #[.int .i64 a.kind, .int .i64 a.num, .string a.text, la], .agg #[.int .i64 b.kind, .int .i64 b.num, .string b.text, lb]] w (Told (vz, 7) w) := by
  have HA := Lib.hid ha
  have HB := Lib.hid hb
  have AB := Lib.hid (show allB a.kind [b] = false by simp [allB]; exact fun e => hq e.symm)
  obtain ⟨lao, lcap, rfl⟩ := ha.shape
  obtain ⟨lao2, lcap2, rfl⟩ := hb.shape
  clear ha hb hq
  rcases hk with rfl | rfl
  all_goals
    go_enter Tryz.func127, Tryz.ntmps127
    go_wp2_with fail
    (with_reducible refine (vall _ (D + 1) a.kind [b] _ (row_one ?_ (HB.out.below (below_al (below_al (below_al (below_al (Below.refl w.heap.size w) _) _) _) _)))).mono ?_)
    · exact heap_at (by simp)
    rw [AB.out]
    rintro e w1 ⟨rfl, hb1⟩
    obtain ⟨hc, hf⟩ := bcell hb1
    have B1 := Lib.hid (below_tr (below_al (below_al (below_al (below_al (Below.refl w.heap.size w) _) _) _) _) hb1)
    have z0 : w.heap.size < w1.heap.size := by have := hb1.size; simp at this; omega
    have z1 : w.heap.size + 1 < w1.heap.size := by have := hb1.size; simp at this; omega
    have z2 : w.heap.size + 1 + 1 < w1.heap.size := by have := hb1.size; simp at this; omega
    clear hb1
    go_wp2_with fail
    exact bodyPost_ret (v := .tuple #[.agg #[.int .i64 0, .int .i64 0, .string ⟨#[]⟩, .slice none 0 0], .int .i64 7]) (by simp [results, Tryz.results127, go_sem, hc, z0, z1, z2]) rfl ⟨rfl, below_set4 (B1.out) (by omega) _ _ _ _⟩
set_option maxHeartbeats 4000000 in
theorem vtwo_e (D : Nat) (k : Int) (a b : VL) (la lb : Value) (ha : RowRd w D a.kids la) (hb : RowRd w D b.kids lb) (hk : k = 13 ∨ k = 14) (hq : a.kind = b.kind) :
    Calls Tryz.prog 127 #[.int .i64 k, .agg #[.int .i64 a.kind, .int .i64 a.num, .string a.text, la], .agg #[.int .i64 b.kind, .int .i64 b.num, .string b.text, lb]] w (Told (vbool (sameB D a b == (k == 13)), 0) w) := by
  have HA := Lib.hid ha
  have HB := Lib.hid hb
  have AB := Lib.hid (show allB a.kind [b] = true by simp [allB, hq])
  obtain ⟨lao, lcap, rfl⟩ := ha.shape
  obtain ⟨lao2, lcap2, rfl⟩ := hb.shape
  clear ha hb hq
  rcases hk with rfl | rfl
  all_goals
    go_enter Tryz.func127, Tryz.ntmps127
    go_wp2_with fail
    (with_reducible refine (vall _ (D + 1) a.kind [b] _ (row_one ?_ (HB.out.below (below_al (below_al (below_al (below_al (Below.refl w.heap.size w) _) _) _) _)))).mono ?_)
    · exact heap_at (by simp)
    rw [AB.out]
    rintro e w1 ⟨rfl, hb1⟩
    obtain ⟨hc, hf⟩ := bcell hb1
    have B1 := Lib.hid (below_tr (below_al (below_al (below_al (below_al (Below.refl w.heap.size w) _) _) _) _) hb1)
    have z0 : w.heap.size < w1.heap.size := by have := hb1.size; simp at this; omega
    have z1 : w.heap.size + 1 < w1.heap.size := by have := hb1.size; simp at this; omega
    have z2 : w.heap.size + 1 + 1 < w1.heap.size := by have := hb1.size; simp at this; omega
    clear hb1
    go_wp2_with fail
    (with_reducible refine ((vsame D).call a b _ _ _ (HA.out.below B1.out) (HB.out.below B1.out)).mono ?_)
    rintro e w2 ⟨rfl, hb2⟩
    obtain ⟨hc2, hf2⟩ := bcell hb2
    have B2 := Lib.hid (below_tr B1.out hb2)
    have y2 : w.heap.size + 1 + 1 < w2.heap.size := Nat.lt_of_lt_of_le z2 hb2.size
    clear hb2
    go_wp2_with fail
    with_reducible refine (vboolean _ _).mono ?_
    rintro e w3 ⟨rfl, hb3⟩
    obtain ⟨hc3, hf3⟩ := bcell hb3
    have B3 := Lib.hid (below_tr B2.out hb3)
    clear hb3
    go_wp2_with fail
    exact bodyPost_ret (v := .tuple #[.agg #[.int .i64 (vbool (sameB D a b == _)).kind, .int .i64 (vbool (sameB D a b == _)).num, .string (vbool (sameB D a b == _)).text, .slice none 0 0], .int .i64 0]) (by simp [results, Tryz.results127, go_sem, hc, hc2, hc3, z0, z1, z2, y2]) rfl ⟨rfl, below_set4 (B3.out) (by omega) _ _ _ _⟩
set_option maxHeartbeats 4000000 in
theorem vtwo_c (D : Nat) (k : Int) (a b : VL) (la lb : Value) (ha : RowRd w D a.kids la) (hb : RowRd w D b.kids lb) (hk : k = 15 ∨ k = 16 ∨ k = 17 ∨ k = 18) (hq : a.kind = 1 ∧ b.kind = 1) :
    Calls Tryz.prog 127 #[.int .i64 k, .agg #[.int .i64 a.kind, .int .i64 a.num, .string a.text, la], .agg #[.int .i64 b.kind, .int .i64 b.num, .string b.text, lb]] w (Told (vbool (holdsB k a.num b.num), 0) w) := by
  have HA := Lib.hid ha
  have HB := Lib.hid hb
  have AB := Lib.hid (show allB 1 [a, b] = true by simp [allB, hq.1, hq.2])
  obtain ⟨lao, lcap, rfl⟩ := ha.shape
  obtain ⟨lao2, lcap2, rfl⟩ := hb.shape
  clear ha hb hq
  rcases hk with rfl | rfl | rfl | rfl
  all_goals
    go_enter Tryz.func127, Tryz.ntmps127
    go_wp2_with fail
    (with_reducible refine (vall _ (D + 1) 1 [a, b] _ (row_two ?_ (HA.out.below (below_al (below_al (below_al (below_al (Below.refl w.heap.size w) _) _) _) _)) (HB.out.below (below_al (below_al (below_al (below_al (Below.refl w.heap.size w) _) _) _) _)))).mono ?_)
    · exact heap_at (by simp)
    rw [AB.out]
    rintro e w1 ⟨rfl, hb1⟩
    obtain ⟨hc, hf⟩ := bcell hb1
    have B1 := Lib.hid (below_tr (below_al (below_al (below_al (below_al (Below.refl w.heap.size w) _) _) _) _) hb1)
    have z0 : w.heap.size < w1.heap.size := by have := hb1.size; simp at this; omega
    have z1 : w.heap.size + 1 < w1.heap.size := by have := hb1.size; simp at this; omega
    have z2 : w.heap.size + 1 + 1 < w1.heap.size := by have := hb1.size; simp at this; omega
    clear hb1
    go_wp2_with fail
    with_reducible refine (vholds _ _ _ _ (by omega)).mono ?_
    rintro e w2 ⟨rfl, hb2⟩
    obtain ⟨hc2, hf2⟩ := bcell hb2
    have B2 := Lib.hid (below_tr B1.out hb2)
    have y2 : w.heap.size + 1 + 1 < w2.heap.size := Nat.lt_of_lt_of_le z2 hb2.size
    clear hb2
    go_wp2_with fail
    with_reducible refine (vboolean _ _).mono ?_
    rintro e w3 ⟨rfl, hb3⟩
    obtain ⟨hc3, hf3⟩ := bcell hb3
    have B3 := Lib.hid (below_tr B2.out hb3)
    clear hb3
    go_wp2_with fail
    exact bodyPost_ret (v := .tuple #[.agg #[.int .i64 (vbool (holdsB _ a.num b.num)).kind, .int .i64 (vbool (holdsB _ a.num b.num)).num, .string (vbool (holdsB _ a.num b.num)).text, .slice none 0 0], .int .i64 0]) (by simp [results, Tryz.results127, go_sem, hc, hc2, hc3, z0, z1, z2, y2]) rfl ⟨rfl, below_set4 (B3.out) (by omega) _ _ _ _⟩
set_option maxHeartbeats 4000000 in
theorem vtwo_ct (D : Nat) (k : Int) (a b : VL) (la lb : Value) (ha : RowRd w D a.kids la) (hb : RowRd w D b.kids lb) (hk : k = 15 ∨ k = 16 ∨ k = 17 ∨ k = 18) (hq : ¬ (a.kind = 1 ∧ b.kind = 1)) :
    Calls Tryz.prog 127 #[.int .i64 k, .agg #[.int .i64 a.kind, .int .i64 a.num, .string a.text, la], .agg #[.int .i64 b.kind, .int .i64 b.num, .string b.text, lb]] w (Told (vz, 7) w) := by
  have HA := Lib.hid ha
  have HB := Lib.hid hb
  have AB := Lib.hid (show allB 1 [a, b] = false by
    cases h : allB 1 [a, b] with
    | false => rfl
    | true => simp [allB] at h; exact absurd h hq)
  obtain ⟨lao, lcap, rfl⟩ := ha.shape
  obtain ⟨lao2, lcap2, rfl⟩ := hb.shape
  clear ha hb hq
  rcases hk with rfl | rfl | rfl | rfl
  all_goals
    go_enter Tryz.func127, Tryz.ntmps127
    go_wp2_with fail
    (with_reducible refine (vall _ (D + 1) 1 [a, b] _ (row_two ?_ (HA.out.below (below_al (below_al (below_al (below_al (Below.refl w.heap.size w) _) _) _) _)) (HB.out.below (below_al (below_al (below_al (below_al (Below.refl w.heap.size w) _) _) _) _)))).mono ?_)
    · exact heap_at (by simp)
    rw [AB.out]
    rintro e w1 ⟨rfl, hb1⟩
    obtain ⟨hc, hf⟩ := bcell hb1
    have B1 := Lib.hid (below_tr (below_al (below_al (below_al (below_al (Below.refl w.heap.size w) _) _) _) _) hb1)
    have z0 : w.heap.size < w1.heap.size := by have := hb1.size; simp at this; omega
    have z1 : w.heap.size + 1 < w1.heap.size := by have := hb1.size; simp at this; omega
    have z2 : w.heap.size + 1 + 1 < w1.heap.size := by have := hb1.size; simp at this; omega
    clear hb1
    go_wp2_with fail
    exact bodyPost_ret (v := .tuple #[.agg #[.int .i64 0, .int .i64 0, .string ⟨#[]⟩, .slice none 0 0], .int .i64 7]) (by simp [results, Tryz.results127, go_sem, hc, z0, z1, z2]) rfl ⟨rfl, below_set4 (B1.out) (by omega) _ _ _ _⟩
set_option maxHeartbeats 4000000 in
theorem vtwo_nt (D : Nat) (k : Int) (a b : VL) (la lb : Value) (ha : RowRd w D a.kids la) (hb : RowRd w D b.kids lb) (hk : k = 19 ∨ k = 20 ∨ k = 21 ∨ k = 22 ∨ k = 23) (hq : ¬ (a.kind = 1 ∧ b.kind = 1)) :
    Calls Tryz.prog 127 #[.int .i64 k, .agg #[.int .i64 a.kind, .int .i64 a.num, .string a.text, la], .agg #[.int .i64 b.kind, .int .i64 b.num, .string b.text, lb]] w (Told (vz, 7) w) := by
  have HA := Lib.hid ha
  have HB := Lib.hid hb
  have AB := Lib.hid (show allB 1 [a, b] = false by
    cases h : allB 1 [a, b] with
    | false => rfl
    | true => simp [allB] at h; exact absurd h hq)
  obtain ⟨lao, lcap, rfl⟩ := ha.shape
  obtain ⟨lao2, lcap2, rfl⟩ := hb.shape
  clear ha hb hq
  rcases hk with rfl | rfl | rfl | rfl | rfl
  all_goals
    go_enter Tryz.func127, Tryz.ntmps127
    go_wp2_with fail
    (with_reducible refine (vall _ (D + 1) 1 [a, b] _ (row_two ?_ (HA.out.below (below_al (below_al (below_al (below_al (Below.refl w.heap.size w) _) _) _) _)) (HB.out.below (below_al (below_al (below_al (below_al (Below.refl w.heap.size w) _) _) _) _)))).mono ?_)
    · exact heap_at (by simp)
    rw [AB.out]
    rintro e w1 ⟨rfl, hb1⟩
    obtain ⟨hc, hf⟩ := bcell hb1
    have B1 := Lib.hid (below_tr (below_al (below_al (below_al (below_al (Below.refl w.heap.size w) _) _) _) _) hb1)
    have z0 : w.heap.size < w1.heap.size := by have := hb1.size; simp at this; omega
    have z1 : w.heap.size + 1 < w1.heap.size := by have := hb1.size; simp at this; omega
    have z2 : w.heap.size + 1 + 1 < w1.heap.size := by have := hb1.size; simp at this; omega
    clear hb1
    go_wp2_with fail
    exact bodyPost_ret (v := .tuple #[.agg #[.int .i64 0, .int .i64 0, .string ⟨#[]⟩, .slice none 0 0], .int .i64 7]) (by simp [results, Tryz.results127, go_sem, hc, z0, z1, z2]) rfl ⟨rfl, below_set4 (B1.out) (by omega) _ _ _ _⟩
set_option maxHeartbeats 4000000 in
theorem vtwo_n (D : Nat) (k : Int) (a b : VL) (la lb : Value) (ha : RowRd w D a.kids la) (hb : RowRd w D b.kids lb) (hk : k = 19 ∨ k = 20 ∨ k = 21 ∨ k = 22 ∨ k = 23) (hq : a.kind = 1 ∧ b.kind = 1) (hi : I64 a.num) (hj : I64 b.num) :
    Calls Tryz.prog 127 #[.int .i64 k, .agg #[.int .i64 a.kind, .int .i64 a.num, .string a.text, la], .agg #[.int .i64 b.kind, .int .i64 b.num, .string b.text, lb]] w (Told (numR (reckonR k a.num b.num)) w) := by
  have HA := Lib.hid ha
  have HB := Lib.hid hb
  have HI := Lib.hid hi
  have HJ := Lib.hid hj
  clear hi hj
  have AB := Lib.hid (show allB 1 [a, b] = true by simp [allB, hq.1, hq.2])
  obtain ⟨lao, lcap, rfl⟩ := ha.shape
  obtain ⟨lao2, lcap2, rfl⟩ := hb.shape
  clear ha hb hq
  rcases hk with rfl | rfl | rfl | rfl | rfl
  all_goals
    go_enter Tryz.func127, Tryz.ntmps127
    go_wp2_with fail
    (with_reducible refine (vall _ (D + 1) 1 [a, b] _ (row_two ?_ (HA.out.below (below_al (below_al (below_al (below_al (Below.refl w.heap.size w) _) _) _) _)) (HB.out.below (below_al (below_al (below_al (below_al (Below.refl w.heap.size w) _) _) _) _)))).mono ?_)
    · exact heap_at (by simp)
    rw [AB.out]
    rintro e w1 ⟨rfl, hb1⟩
    obtain ⟨hc, hf⟩ := bcell hb1
    have B1 := Lib.hid (below_tr (below_al (below_al (below_al (below_al (Below.refl w.heap.size w) _) _) _) _) hb1)
    have z0 : w.heap.size < w1.heap.size := by have := hb1.size; simp at this; omega
    have z1 : w.heap.size + 1 < w1.heap.size := by have := hb1.size; simp at this; omega
    have z2 : w.heap.size + 1 + 1 < w1.heap.size := by have := hb1.size; simp at this; omega
    clear hb1
    go_wp2_with fail
    (with_reducible refine (vreckon _ _ _ _ (by omega) HI.out HJ.out).mono ?_)
    rintro e w' ⟨rfl, rfl⟩
    go_wp2_with fail
    with_reducible refine (vnumber _ _ _).mono ?_
    rintro e w2 ⟨rfl, hb2⟩
    obtain ⟨hc2, hf2⟩ := bcell hb2
    have B2 := Lib.hid (below_tr B1.out hb2)
    have y2 : w.heap.size + 1 + 1 < w2.heap.size := Nat.lt_of_lt_of_le z2 hb2.size
    clear hb2
    go_wp2_with fail
    exact bodyPost_ret (v := .tuple #[.agg #[.int .i64 (numR (reckonR _ a.num b.num)).1.kind, .int .i64 (numR (reckonR _ a.num b.num)).1.num, .string (numR (reckonR _ a.num b.num)).1.text, .slice none 0 0], .int .i64 (numR (reckonR _ a.num b.num)).2]) (by simp [results, Tryz.results127, go_sem, hc, hc2, z0, z1, z2]) rfl ⟨rfl, below_set4 (B2.out) (by omega) _ _ _ _⟩
set_option maxHeartbeats 1000000 in
theorem vtwo_x (k : Int) (a b : VL) (lao lao2 : Option Addr) (ln lcap ln2 lcap2 : Nat) (hk : ¬ (11 ≤ k ∧ k ≤ 23)) :
    Calls Tryz.prog 127 #[.int .i64 k, .agg #[.int .i64 a.kind, .int .i64 a.num, .string a.text, .slice lao ln lcap], .agg #[.int .i64 b.kind, .int .i64 b.num, .string b.text, .slice lao2 ln2 lcap2]] w (Told (vz, 1) w) := by
  have g11 : (k == 11) = false := by simp; omega
  have g12 : (k == 12) = false := by simp; omega
  have g13 : (k == 13) = false := by simp; omega
  have g14 : (k == 14) = false := by simp; omega
  have g15 : (k == 15) = false := by simp; omega
  have g16 : (k == 16) = false := by simp; omega
  have g17 : (k == 17) = false := by simp; omega
  have g18 : (k == 18) = false := by simp; omega
  have g19 : (k == 19) = false := by simp; omega
  have g20 : (k == 20) = false := by simp; omega
  have g21 : (k == 21) = false := by simp; omega
  have g22 : (k == 22) = false := by simp; omega
  have g23 : (k == 23) = false := by simp; omega
  clear hk
  go_enter Tryz.func127, Tryz.ntmps127
  go_wp2_with fail
  exact bodyPost_ret (v := .tuple #[.agg #[.int .i64 0, .int .i64 0, .string ⟨#[]⟩, .slice none 0 0], .int .i64 1]) (by simp [results, Tryz.results127, go_sem]) rfl ⟨rfl, below_al (below_al (below_al (Below.refl _ _) _) _) _⟩
theorem vtwo (D : Nat) (k : Int) (a b : VL) (la lb : Value) (ha : RowRd w D a.kids la) (hb : RowRd w D b.kids lb) (hi : I64 a.num) (hj : I64 b.num) :
    Calls Tryz.prog 127 #[.int .i64 k, .agg #[.int .i64 a.kind, .int .i64 a.num, .string a.text, la], .agg #[.int .i64 b.kind, .int .i64 b.num, .string b.text, lb]] w (Told (twoR D k a b) w) := by
  unfold twoR
  by_cases h1 : k = 11 ∨ k = 12
  · rw [if_pos h1]
    by_cases hq : a.kind = 3 ∧ b.kind = 3
    · rw [if_pos hq]; exact vtwo_b w D k a b la lb ha hb h1 hq
    · rw [if_neg hq]; exact vtwo_bt w D k a b la lb ha hb h1 hq
  · rw [if_neg h1]
    by_cases h2 : k = 13 ∨ k = 14
    · rw [if_pos h2]
      by_cases hq : a.kind = b.kind
      · rw [if_pos hq]; exact vtwo_e w D k a b la lb ha hb h2 hq
      · rw [if_neg hq]; exact vtwo_et w D k a b la lb ha hb h2 hq
    · rw [if_neg h2]
      by_cases h3 : 15 ≤ k ∧ k ≤ 18
      · rw [if_pos h3]
        have h3' : k = 15 ∨ k = 16 ∨ k = 17 ∨ k = 18 := by omega
        by_cases hq : a.kind = 1 ∧ b.kind = 1
        · rw [if_pos hq]; exact vtwo_c w D k a b la lb ha hb h3' hq
        · rw [if_neg hq]; exact vtwo_ct w D k a b la lb ha hb h3' hq
      · rw [if_neg h3]
        by_cases h4 : 19 ≤ k ∧ k ≤ 23
        · rw [if_pos h4]
          have h4' : k = 19 ∨ k = 20 ∨ k = 21 ∨ k = 22 ∨ k = 23 := by omega
          by_cases hq : a.kind = 1 ∧ b.kind = 1
          · rw [if_pos hq]; exact vtwo_n w D k a b la lb ha hb h4' hq hi hj
          · rw [if_neg hq]; exact vtwo_nt w D k a b la lb ha hb h4' hq
        · rw [if_neg h4]
          obtain ⟨lao, lcap, rfl⟩ := ha.shape
          obtain ⟨lao2, lcap2, rfl⟩ := hb.shape
          exact vtwo_x w k a b _ _ _ _ _ _ (by omega)
end
end Go.Proofs.YtndeihmclecmcaaGreatDoor
