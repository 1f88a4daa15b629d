/- VecOrder: Le is an order; the greatest is above both, and below all that is. -/
import Derived.Test.YtjoakpgcflhfnaaDoorVecD
import Derived.Deep.Cut
namespace Go.Proofs.YtjoakpgcflhfnaaDoor
open Go.RowKit
set_option linter.unusedVariables false
set_option linter.unusedSimpArgs false
theorem leV_iff (a b : V3) : leV a b = true ↔ a.c ≤ b.c ∧ a.m ≤ b.m ∧ a.p ≤ b.p := by
  unfold leV; simp only [Bool.and_eq_true, decide_eq_true_eq]; omega
section
variable (w : World)
theorem pmax (x : V3) (xs : List V3) (r : V3) (e : maxV (x :: xs) = r) (hl : xs.length ≤ 1000) (W : World) (lv : Value) (h : VRow W (x :: xs) lv) : Calls Tryd.prog 17 #[lv] W (Made (.agg #[.int .i64 r.c, .int .i64 r.m, .int .i64 r.p]) W) :=
  e ▸ vmax_any W x xs lv h hl
theorem ple (a b : V3) (r : Bool) (e : leV a b = r) (W : World) : Calls Tryd.prog 15 #[.agg #[.int .i64 a.c, .int .i64 a.m, .int .i64 a.p], .agg #[.int .i64 b.c, .int .i64 b.m, .int .i64 b.p]] W (Made (.bool r) W) :=
  e ▸ vle_any W a b
set_option maxHeartbeats 16000000 in
set_option maxRecDepth 100000 in
theorem law_vorder (a b c d e f g h i : Nat) (ha : a < 65536) (hb : b < 65536) (hc : c < 65536) (hd : d < 65536) (he : e < 65536) (hf : f < 65536) (hg' : g < 65536) (hh : h < 65536) (hi : i < 65536) (ht : TabOK w) :
    Calls Tryd.prog 5 #[.int .u16 a, .int .u16 b, .int .u16 c, .int .u16 d, .int .u16 e, .int .u16 f, .int .u16 g, .int .u16 h, .int .u16 i] w (Made (.bool true) w) := by
  have M1 := Lib.hid (fun W => lmake_any W a b c ha hb hc)
  have M2 := Lib.hid (fun W => lmake_any W d e f hd he hf)
  have M3 := Lib.hid (fun W => lmake_any W g h i hg' hh hi)
  obtain ⟨x, hx⟩ : ∃ x, x = nV a b c := ⟨_, rfl⟩
  obtain ⟨y, hy⟩ : ∃ y, y = nV d e f := ⟨_, rfl⟩
  obtain ⟨z, hz⟩ : ∃ z, z = nV g h i := ⟨_, rfl⟩
  have MX : Hid (∀ W, Calls Tryd.prog 21 #[.int .u16 a, .int .u16 b, .int .u16 c] W (Made (.agg #[.int .i64 x.c, .int .i64 x.m, .int .i64 x.p]) W)) := by rw [hx]; exact M1.out
  have MY : Hid (∀ W, Calls Tryd.prog 21 #[.int .u16 d, .int .u16 e, .int .u16 f] W (Made (.agg #[.int .i64 y.c, .int .i64 y.m, .int .i64 y.p]) W)) := by rw [hy]; exact M2.out
  have MZ : Hid (∀ W, Calls Tryd.prog 21 #[.int .u16 g, .int .u16 h, .int .u16 i] W (Made (.agg #[.int .i64 z.c, .int .i64 z.m, .int .i64 z.p]) W)) := by rw [hz]; exact M3.out
  have hmx : leV x mostV = true := by rw [leV_iff, hx]; unfold nV mostV; simp only; omega
  clear M1 M2 M3 hx hy hz
  obtain ⟨m, hm⟩ : ∃ m, m = max2V x y := ⟨_, rfl⟩
  have X1 := Lib.hid (pmax x [y] m (by rw [hm]; rfl) (by simp))
  have X2 := Lib.hid (pmax x [] x rfl (by simp))
  obtain ⟨n, hn⟩ : ∃ n, n = max2V z m := ⟨_, rfl⟩
  have X3 := Lib.hid (pmax x [y, z] n (by rw [hn, hm]; apply v3_ext <;> simp [maxV, max2V] <;> omega) (by simp))
  have X4 := Lib.hid (pmax z [m] n (by rw [hn]; rfl) (by simp))
  have L1 := Lib.hid (ple x x true (by rw [leV_iff]; omega))
  have L2 := Lib.hid (ple x m true (by rw [leV_iff, hm]; unfold max2V; simp only; omega))
  have L3 := Lib.hid (ple y m true (by rw [leV_iff, hm]; unfold max2V; simp only; omega))
  have L4 := Lib.hid (ple x y _ rfl)
  have L5 := Lib.hid (ple y x _ rfl)
  have L6 := Lib.hid (ple y z _ rfl)
  have L7 := Lib.hid (ple x z _ rfl)
  have L8 := Lib.hid (ple m z _ rfl)
  have F1 := Lib.hid (fun (h1 : leV x y = true) (h2 : leV y x = true) => (show x.c = y.c ∧ x.m = y.m ∧ x.p = y.p by rw [leV_iff] at h1 h2; omega))
  have F2 := Lib.hid (fun (h1 : leV x y = true) (h2 : leV y z = true) => (show leV x z = true by rw [leV_iff] at *; omega))
  have F3 := Lib.hid (fun (h1 : leV x z = true) (h2 : leV y z = true) => (show leV m z = true by rw [leV_iff] at *; rw [hm]; unfold max2V; simp only; omega))
  have L9 := Lib.hid (show ∀ W, Calls Tryd.prog 15 #[.agg #[.int .i64 x.c, .int .i64 x.m, .int .i64 x.p], .agg #[.int .i64 1099511627776, .int .i64 1099511627776, .int .i64 1099511627776]] W (Made (.bool true) W) from fun W => ple x mostV true hmx W)
  have O1 := Lib.hid (show ∀ W, Calls Tryd.prog 19 #[] W (Made (.agg #[.int .i64 1099511627776, .int .i64 1099511627776, .int .i64 1099511627776]) W) from fun W => vmost_any W)
  have W1 := Lib.hid (fun W (hW : Below w.heap.size w W) => law10_awake W (ht.below hW))
  clear hmx hm hn ht ha hb hc hd he hf hg' hh hi
  generalize leV x y = b1 at *
  generalize leV y x = b2 at *
  generalize leV y z = b3 at *
  generalize leV x z = b4 at *
  generalize leV m z = b5 at *
  go_enter Tryd.func5, Tryd.ntmps5
  go_wp2_with fail
  with_reducible refine (MX.out _).mono ?_
  rintro e1 w1 ⟨rfl, k1⟩
  go_wp2_with fail
  with_reducible refine (MY.out _).mono ?_
  rintro e2 w2 ⟨rfl, k2⟩
  go_wp2_with fail
  with_reducible refine (MZ.out _).mono ?_
  rintro e3 w3 ⟨rfl, k3⟩
  have B1 := Lib.hid (below_tr (below_tr k1 k2) k3)
  clear k1 k2 k3 MX MY MZ
  go_wp2_with fail
  have BX := Lib.hid (((CBlk.new w3 x).al (.cells #[.int .i64 y.c, .int .i64 y.m, .int .i64 y.p] 23)).al (.cells #[.int .i64 z.c, .int .i64 z.m, .int .i64 z.p] 23))
  have BY := Lib.hid ((show CBlk ((w3.alloc (.cells #[.int .i64 x.c, .int .i64 x.m, .int .i64 x.p] 23)).alloc (.cells #[.int .i64 y.c, .int .i64 y.m, .int .i64 y.p] 23)) (w3.heap.size + 1) y from heap_at (by simp)).al (.cells #[.int .i64 z.c, .int .i64 z.m, .int .i64 z.p] 23))
  have BZ := Lib.hid (show CBlk (((w3.alloc (.cells #[.int .i64 x.c, .int .i64 x.m, .int .i64 x.p] 23)).alloc (.cells #[.int .i64 y.c, .int .i64 y.m, .int .i64 y.p] 23)).alloc (.cells #[.int .i64 z.c, .int .i64 z.m, .int .i64 z.p] 23)) (w3.heap.size + 2) z from heap_at (by simp))
  have B2 := Lib.hid (below_al (below_al (below_al B1.out (.cells #[.int .i64 x.c, .int .i64 x.m, .int .i64 x.p] 23)) (.cells #[.int .i64 y.c, .int .i64 y.m, .int .i64 y.p] 23)) (.cells #[.int .i64 z.c, .int .i64 z.m, .int .i64 z.p] 23))
  (with_reducible refine (X1.out _ _ ?_).mono ?_)
  · exact row_new [x, y] (heap_at (by simp))
  rintro e4 w4 ⟨rfl, k4⟩
  have BX4 := Lib.hid ((BX.out.al _).below k4)
  have BY4 := Lib.hid ((BY.out.al _).below k4)
  have BZ4 := Lib.hid ((BZ.out.al _).below k4)
  have B4 := Lib.hid (below_tr (below_al B2.out _) k4)
  clear k4 BX BY BZ
  go_upto_region 3 with fail
  have BM5 := Lib.hid (CBlk.new w4 m)
  have BX5 := Lib.hid (BX4.out.al (.cells #[.int .i64 m.c, .int .i64 m.m, .int .i64 m.p] 23))
  have BY5 := Lib.hid (BY4.out.al (.cells #[.int .i64 m.c, .int .i64 m.m, .int .i64 m.p] 23))
  have BZ5 := Lib.hid (BZ4.out.al (.cells #[.int .i64 m.c, .int .i64 m.m, .int .i64 m.p] 23))
  have B5 := Lib.hid (below_al B4.out (.cells #[.int .i64 m.c, .int .i64 m.m, .int .i64 m.p] 23))
  clear BX4 BY4 BZ4 B4 B2 B1
  generalize w4.alloc (.cells #[.int .i64 m.c, .int .i64 m.m, .int .i64 m.p] 23) = w5 at *
  generalize w4.heap.size = gm at *
  obtain ⟨q0, q1, q2, ql⟩ := BX5.out.cells
  obtain ⟨r0, r1, r2, rl⟩ := BY5.out.cells
  obtain ⟨s0, s1, s2, sl⟩ := BZ5.out.cells
  obtain ⟨m0, m1, m2, ml⟩ := BM5.out.cells
  generalize w3.heap.size = g0 at *
  go_cut [101] from 23 (fun s wx => s = .bool false ∧ Below w5.heap.size w5 wx)
  case rest =>
    obtain ⟨rfl, hb6⟩ := hcut
    have B6 := Lib.hid (below_tr B5.out hb6)
    replace q0 := hold hb6 q0
    replace q1 := hold hb6 q1
    replace q2 := hold hb6 q2
    replace r0 := hold hb6 r0
    replace r1 := hold hb6 r1
    replace r2 := hold hb6 r2
    replace s0 := hold hb6 s0
    replace s1 := hold hb6 s1
    replace s2 := hold hb6 s2
    replace m0 := hold hb6 m0
    replace m1 := hold hb6 m1
    replace m2 := hold hb6 m2
    clear hb6 BX5 BY5 BZ5 BM5 B5 ql rl sl ml
    go_wp2_with fail
    refine wp_region_mono (by kernel_rfl) (by kernel_rfl) ?_
    simp only [List.map_cons, List.map_nil]
    repeat (first
      | (apply wpM_is
         · (intro us W hW hg K hK
            clear hg
            have c0 := hold hW q0
            have c1 := hold hW q1
            have c2 := hold hW q2
            have c3 := hold hW r0
            have c4 := hold hW r1
            have c5 := hold hW r2
            have c6 := hold hW s0
            have c7 := hold hW s1
            have c8 := hold hW s2
            have c9 := hold hW m0
            have c10 := hold hW m1
            have c11 := hold hW m2
            simp only [fillA]
            go_simp
            first
            | exact hK _ (Below.refl _ _))
         simp only [setD, List.set_cons_zero, List.set_cons_succ]))
    refine wpM_any (fun v W => VRow W [x] v) (fun v W W' h hb => h.below hb) ?_ ?_
    · intro us W hW hg K hK
      clear hg
      simp only [fillA]
      go_simp
      exact hK _ _ (row_new [x] (heap_alloc_new _ _)) (below_al (Below.refl _ _) _)
    simp only [setD, List.set_cons_zero, List.set_cons_succ]
    apply wpM_is
    · intro us W hW hg K hK
      have h0 := hg 103 (List.elem_iff.1 (by kernel_rfl)) _ rfl
      clear hg
      simp only [fillA]
      go_simp
      (with_reducible refine (X2.out _ _ h0).mono ?_)
      rintro e w' ⟨rfl, hb⟩
      exact hK _ hb
    simp only [setD, List.set_cons_zero, List.set_cons_succ]
    repeat (first
      | (apply wpM_is
         · (intro us W hW hg K hK
            clear hg
            have c0 := hold hW q0
            have c1 := hold hW q1
            have c2 := hold hW q2
            have c3 := hold hW r0
            have c4 := hold hW r1
            have c5 := hold hW r2
            have c6 := hold hW s0
            have c7 := hold hW s1
            have c8 := hold hW s2
            have c9 := hold hW m0
            have c10 := hold hW m1
            have c11 := hold hW m2
            simp only [fillA]
            go_simp
            first
            | exact hK _ (Below.refl _ _))
         simp only [setD, List.set_cons_zero, List.set_cons_succ]))
    refine wpM_any (fun v W => VRow W [x, y, z] v) (fun v W W' h hb => h.below hb) ?_ ?_
    · intro us W hW hg K hK
      clear hg
      simp only [fillA]
      go_simp
      exact hK _ _ (row_new [x, y, z] (heap_alloc_new _ _)) (below_al (Below.refl _ _) _)
    simp only [setD, List.set_cons_zero, List.set_cons_succ]
    apply wpM_is
    · intro us W hW hg K hK
      have h0 := hg 111 (List.elem_iff.1 (by kernel_rfl)) _ rfl
      clear hg
      simp only [fillA]
      go_simp
      (with_reducible refine (X3.out _ _ h0).mono ?_)
      rintro e w' ⟨rfl, hb⟩
      exact hK _ hb
    simp only [setD, List.set_cons_zero, List.set_cons_succ]
    repeat (first
      | (apply wpM_is
         · (intro us W hW hg K hK
            clear hg
            have c0 := hold hW q0
            have c1 := hold hW q1
            have c2 := hold hW q2
            have c3 := hold hW r0
            have c4 := hold hW r1
            have c5 := hold hW r2
            have c6 := hold hW s0
            have c7 := hold hW s1
            have c8 := hold hW s2
            have c9 := hold hW m0
            have c10 := hold hW m1
            have c11 := hold hW m2
            simp only [fillA]
            go_simp
            first
            | exact hK _ (Below.refl _ _))
         simp only [setD, List.set_cons_zero, List.set_cons_succ]))
    refine wpM_any (fun v W => VRow W [z, m] v) (fun v W W' h hb => h.below hb) ?_ ?_
    · intro us W hW hg K hK
      clear hg
      simp only [fillA]
      go_simp
      exact hK _ _ (row_new [z, m] (heap_alloc_new _ _)) (below_al (Below.refl _ _) _)
    simp only [setD, List.set_cons_zero, List.set_cons_succ]
    apply wpM_is
    · intro us W hW hg K hK
      have h0 := hg 115 (List.elem_iff.1 (by kernel_rfl)) _ rfl
      clear hg
      simp only [fillA]
      go_simp
      (with_reducible refine (X4.out _ _ h0).mono ?_)
      rintro e w' ⟨rfl, hb⟩
      exact hK _ hb
    simp only [setD, List.set_cons_zero, List.set_cons_succ]
    repeat (first
      | (apply wpM_is
         · (intro us W hW hg K hK
            clear hg
            have c0 := hold hW q0
            have c1 := hold hW q1
            have c2 := hold hW q2
            have c3 := hold hW r0
            have c4 := hold hW r1
            have c5 := hold hW r2
            have c6 := hold hW s0
            have c7 := hold hW s1
            have c8 := hold hW s2
            have c9 := hold hW m0
            have c10 := hold hW m1
            have c11 := hold hW m2
            simp only [fillA]
            go_simp
            first
            | exact hK _ (Below.refl _ _)
            | ((with_reducible refine (L9.out _).mono ?_); rintro e w' ⟨rfl, hb⟩; exact hK _ hb)
            | ((with_reducible refine (O1.out _).mono ?_); rintro e w' ⟨rfl, hb⟩; exact hK _ hb)
            | ((with_reducible refine (W1.out _ (below_tr B6.out hW)).mono ?_); rintro e w' ⟨rfl, hb⟩; exact hK _ hb))
         simp only [setD, List.set_cons_zero, List.set_cons_succ]))
    intro us W hW hg
    simp only [fillA]
    clear hg
    go_wp2_with fail
    go_ret
    exact ⟨rfl, below_tr B6.out hW⟩
  case first =>
    have KX := Lib.hid (fun W (hW : Below w5.heap.size w5 W) => (BX5.out.below hW).cells)
    have KY := Lib.hid (fun W (hW : Below w5.heap.size w5 W) => (BY5.out.below hW).cells)
    have KZ := Lib.hid (fun W (hW : Below w5.heap.size w5 W) => (BZ5.out.below hW).cells)
    have KM := Lib.hid (fun W (hW : Below w5.heap.size w5 W) => (BM5.out.below hW).cells)
    clear KX KY KZ KM X1 X2 X3 X4 L9 O1 W1 B5 BX5 BY5 BZ5 BM5
    have BB := Lib.hid (Below.refl w5.heap.size w5)
    cases b1 <;> cases b2 <;> cases b3 <;> cases b4 <;> cases b5
    all_goals first
      | exact absurd (F2.out rfl rfl) (by decide)
      | exact absurd (F3.out rfl rfl) (by decide)
      | skip
    all_goals (have E1 : (x.c == y.c) = true ∨ True := Or.inr trivial)
    all_goals (try (obtain ⟨d1, d2, d3⟩ := F1.out rfl rfl; (replace d1 : (x.c == y.c) = true := by simpa using d1); (replace d2 : (x.m == y.m) = true := by simpa using d2); (replace d3 : (x.p == y.p) = true := by simpa using d3)))
    all_goals clear F1 F2 F3 E1
    all_goals
      go_wp2_with (first
        | (go_at_call 15; (with_reducible refine (L1.out _).mono ?_); rintro e wn ⟨rfl, hn⟩; (replace q0 := hold hn q0); (replace q1 := hold hn q1); (replace q2 := hold hn q2); (replace r0 := hold hn r0); (replace r1 := hold hn r1); (replace r2 := hold hn r2); (replace s0 := hold hn s0); (replace s1 := hold hn s1); (replace s2 := hold hn s2); (replace m0 := hold hn m0); (replace m1 := hold hn m1); (replace m2 := hold hn m2); (replace BB := Lib.hid (below_tr BB.out hn)); clear hn)
        | (go_at_call 15; (with_reducible refine (L2.out _).mono ?_); rintro e wn ⟨rfl, hn⟩; (replace q0 := hold hn q0); (replace q1 := hold hn q1); (replace q2 := hold hn q2); (replace r0 := hold hn r0); (replace r1 := hold hn r1); (replace r2 := hold hn r2); (replace s0 := hold hn s0); (replace s1 := hold hn s1); (replace s2 := hold hn s2); (replace m0 := hold hn m0); (replace m1 := hold hn m1); (replace m2 := hold hn m2); (replace BB := Lib.hid (below_tr BB.out hn)); clear hn)
        | (go_at_call 15; (with_reducible refine (L3.out _).mono ?_); rintro e wn ⟨rfl, hn⟩; (replace q0 := hold hn q0); (replace q1 := hold hn q1); (replace q2 := hold hn q2); (replace r0 := hold hn r0); (replace r1 := hold hn r1); (replace r2 := hold hn r2); (replace s0 := hold hn s0); (replace s1 := hold hn s1); (replace s2 := hold hn s2); (replace m0 := hold hn m0); (replace m1 := hold hn m1); (replace m2 := hold hn m2); (replace BB := Lib.hid (below_tr BB.out hn)); clear hn)
        | (go_at_call 15; (with_reducible refine (L4.out _).mono ?_); rintro e wn ⟨rfl, hn⟩; (replace q0 := hold hn q0); (replace q1 := hold hn q1); (replace q2 := hold hn q2); (replace r0 := hold hn r0); (replace r1 := hold hn r1); (replace r2 := hold hn r2); (replace s0 := hold hn s0); (replace s1 := hold hn s1); (replace s2 := hold hn s2); (replace m0 := hold hn m0); (replace m1 := hold hn m1); (replace m2 := hold hn m2); (replace BB := Lib.hid (below_tr BB.out hn)); clear hn)
        | (go_at_call 15; (with_reducible refine (L5.out _).mono ?_); rintro e wn ⟨rfl, hn⟩; (replace q0 := hold hn q0); (replace q1 := hold hn q1); (replace q2 := hold hn q2); (replace r0 := hold hn r0); (replace r1 := hold hn r1); (replace r2 := hold hn r2); (replace s0 := hold hn s0); (replace s1 := hold hn s1); (replace s2 := hold hn s2); (replace m0 := hold hn m0); (replace m1 := hold hn m1); (replace m2 := hold hn m2); (replace BB := Lib.hid (below_tr BB.out hn)); clear hn)
        | (go_at_call 15; (with_reducible refine (L6.out _).mono ?_); rintro e wn ⟨rfl, hn⟩; (replace q0 := hold hn q0); (replace q1 := hold hn q1); (replace q2 := hold hn q2); (replace r0 := hold hn r0); (replace r1 := hold hn r1); (replace r2 := hold hn r2); (replace s0 := hold hn s0); (replace s1 := hold hn s1); (replace s2 := hold hn s2); (replace m0 := hold hn m0); (replace m1 := hold hn m1); (replace m2 := hold hn m2); (replace BB := Lib.hid (below_tr BB.out hn)); clear hn)
        | (go_at_call 15; (with_reducible refine (L7.out _).mono ?_); rintro e wn ⟨rfl, hn⟩; (replace q0 := hold hn q0); (replace q1 := hold hn q1); (replace q2 := hold hn q2); (replace r0 := hold hn r0); (replace r1 := hold hn r1); (replace r2 := hold hn r2); (replace s0 := hold hn s0); (replace s1 := hold hn s1); (replace s2 := hold hn s2); (replace m0 := hold hn m0); (replace m1 := hold hn m1); (replace m2 := hold hn m2); (replace BB := Lib.hid (below_tr BB.out hn)); clear hn)
        | (go_at_call 15; (with_reducible refine (L8.out _).mono ?_); rintro e wn ⟨rfl, hn⟩; (replace q0 := hold hn q0); (replace q1 := hold hn q1); (replace q2 := hold hn q2); (replace r0 := hold hn r0); (replace r1 := hold hn r1); (replace r2 := hold hn r2); (replace s0 := hold hn s0); (replace s1 := hold hn s1); (replace s2 := hold hn s2); (replace m0 := hold hn m0); (replace m1 := hold hn m1); (replace m2 := hold hn m2); (replace BB := Lib.hid (below_tr BB.out hn)); clear hn))
      go_meet
      case rel => exact ⟨rfl, BB.out⟩
end
end Go.Proofs.YtjoakpgcflhfnaaDoor
