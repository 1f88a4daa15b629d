/- VecSums: sums do not hang on the order. -/
import Derived.Test.YtjoakpgcflhfnaaDoorVecC
namespace Go.Proofs.YtjoakpgcflhfnaaDoor
open Go.RowKit
set_option linter.unusedVariables false
set_option linter.unusedSimpArgs false
theorem row_at (l : List V3) : ∀ (i r : Nat) (u : V3), l[i]? = some u → r < 3 → (l.flatMap V3.cells).toArray[0 + i * 3 + r]? = u.cells[r]? := by
  induction l with
  | nil => intro i r u hu; simp at hu
  | cons x l ih =>
    intro i r u hu hr
    cases i with
    | zero =>
      simp at hu; subst hu
      simp only [List.flatMap_cons, List.getElem?_toArray, Nat.zero_mul, Nat.zero_add]
      rw [List.getElem?_append_left (by simpa [V3.cells] using hr)]
    | succ i =>
      have h := ih i r u (by simpa using hu) hr
      simp only [List.flatMap_cons, List.getElem?_toArray] at h ⊢
      rw [List.getElem?_append_right (by simp [V3.cells]; omega), ← h]
      congr 1
      simp [V3.cells]; omega
/-- A row that was built of one, two, three amounts. -/
theorem row_new {w : World} {g : Nat} (l : List V3) (h : w.heap[g]? = some (.cells (l.flatMap V3.cells).toArray 23 (0, 0))) : VRow w l (.slice (some ⟨g, 0, none⟩) l.length l.length) := by
  refine ⟨_, _, rfl, Nat.le_refl _, fun i u hu => ⟨g, 0, rfl, ?_, ?_, ?_⟩⟩
  all_goals
    rw [cell_of_row _ _ _ _ _ _ h]
  · exact row_at l i 0 u hu (by omega)
  · exact row_at l i 1 u hu (by omega)
  · exact row_at l i 2 u hu (by omega)
section
variable (w : World)
def nV (a b c : Nat) : V3 := ⟨a, b, c⟩
theorem nV_upto (a b c : Nat) (ha : a < 65536) (hb : b < 65536) (hc : c < 65536) : (nV a b c).Upto 65535 := by unfold V3.Upto nV; simp only; omega
theorem upto_mono {v : V3} {b c : Int} (h : v.Upto b) (hc : b ≤ c) : v.Upto c := by unfold V3.Upto at *; omega
theorem upto_add {u v : V3} {b c : Int} (h : u.Upto b) (k : v.Upto c) : (addV u v).Upto (b + c) := by unfold V3.Upto addV at *; simp only; omega
theorem v3_ext {u v : V3} (h1 : u.c = v.c) (h2 : u.m = v.m) (h3 : u.p = v.p) : u = v := by cases u; cases v; simp_all
theorem sum1 (x : V3) : sumV [x] = x := by apply v3_ext <;> simp [sumV, addV, z3]
theorem sum2 (x y : V3) : sumV [x, y] = addV x y := by apply v3_ext <;> simp [sumV, addV, z3]
theorem sum2c (x y : V3) : sumV [y, x] = addV x y := by apply v3_ext <;> simp [sumV, addV, z3] <;> omega
theorem sum3 (x y z : V3) : sumV [x, y, z] = addV (addV x y) z := by apply v3_ext <;> simp [sumV, addV, z3]
theorem sub_add (x y : V3) : subV (addV x y) y = x := by apply v3_ext <;> simp [subV, addV]
theorem padd (l : List V3) (r : V3) (e : sumV l = r) (hl : l.length ≤ 1000) (hb : ∀ v ∈ l, v.Upto 200000) (W : World) (lv : Value) (h : VRow W l lv) : Calls Tryd.prog 11 #[lv] W (Made (.agg #[.int .i64 r.c, .int .i64 r.m, .int .i64 r.p]) W) :=
  e ▸ vadd_any W l lv h hl fun v hv => upto_mono (hb v hv) (by omega)
set_option maxHeartbeats 16000000 in
set_option maxRecDepth 100000 in
theorem law_sums (a b c d e f : Nat) (ha : a < 65536) (hb : b < 65536) (hc : c < 65536) (hd : d < 65536) (he : e < 65536) (hf : f < 65536) (ht : TabOK w) :
    Calls Tryd.prog 4 #[.int .u16 a, .int .u16 b, .int .u16 c, .int .u16 d, .int .u16 e, .int .u16 f] w (Made (.bool true) w) := by
  have M1 := Lib.hid (fun W => lmake_any W a b c ha hb hc)
  have M2 := Lib.hid (fun W => lmake_any W d e f hd he hf)
  obtain ⟨x, hx⟩ : ∃ x, x = nV a b c := ⟨_, rfl⟩
  obtain ⟨y, hy⟩ : ∃ y, y = nV d e f := ⟨_, rfl⟩
  have ux : x.Upto 65535 := hx ▸ nV_upto a b c ha hb hc
  have uy : y.Upto 65535 := hy ▸ nV_upto d e f hd he hf
  obtain ⟨s, hs⟩ : ∃ s, s = addV x y := ⟨_, rfl⟩
  obtain ⟨t, ht'⟩ : ∃ t, t = addV s x := ⟨_, rfl⟩
  have us' : s.Upto 131070 := hs ▸ upto_add ux uy
  have ut : t.Upto 196605 := ht' ▸ upto_add us' ux
  have A1 := Lib.hid (padd [x, y] s (by rw [hs, sum2]) (by simp) (by simp; exact ⟨upto_mono ux (by omega), upto_mono uy (by omega)⟩))
  have A2 := Lib.hid (padd [y, x] s (by rw [hs, sum2c]) (by simp) (by simp; exact ⟨upto_mono uy (by omega), upto_mono ux (by omega)⟩))
  have A3 := Lib.hid (padd [x] x (sum1 x) (by simp) (by simp; exact upto_mono ux (by omega)))
  have A4 := Lib.hid (padd [x, y, x] t (by rw [ht', hs, sum3]) (by simp) (by simp; exact ⟨upto_mono ux (by omega), upto_mono uy (by omega), upto_mono ux (by omega)⟩))
  have A5 := Lib.hid (padd [s, x] t (by rw [ht', sum2]) (by simp) (by simp; exact ⟨upto_mono us' (by omega), upto_mono ux (by omega)⟩))
  have es : subV s y = x := by rw [hs, sub_add]
  have S1 := Lib.hid (fun W => es ▸ vsub_any W s y (by rw [es]; unfold V3.I; unfold V3.Upto at ux; omega))
  have le1 : leV x s = true := by
    have h1 : 0 ≤ y.c ∧ 0 ≤ y.m ∧ 0 ≤ y.p := by rw [hy]; unfold nV; simp only; omega
    rw [hs]; unfold leV addV; simp only [Bool.and_eq_true, decide_eq_true_eq]; omega
  have L1 := Lib.hid (fun W => le1 ▸ vle_any W x s)
  have W1 := Lib.hid (fun W (hW : Below w.heap.size w W) => law10_awake W (ht.below hW))
  have MX : Hid (∀ W, Calls Tryd.prog 21 #[.int .u16 a, .int .u16 b, .int .u16 c] W (Made (.agg #[.int .i64 x.c, .int .i64 x.m, .int .i64 x.p]) W)) := by rw [hx]; exact M1.out
  have MY : Hid (∀ W, Calls Tryd.prog 21 #[.int .u16 d, .int .u16 e, .int .u16 f] W (Made (.agg #[.int .i64 y.c, .int .i64 y.m, .int .i64 y.p]) W)) := by rw [hy]; exact M2.out
  clear M1 M2 hx hy ux uy hs ht' us' ut es le1 ht ha hb hc hd he hf
  go_enter Tryd.func4, Tryd.ntmps4
  go_wp2_with fail
  with_reducible refine (MX.out _).mono ?_
  rintro e1 w1 ⟨rfl, b1⟩
  go_wp2_with fail
  with_reducible refine (MY.out _).mono ?_
  rintro e2 w2 ⟨rfl, b2⟩
  have B1 := Lib.hid (below_tr b1 b2)
  clear b1 b2
  go_wp2_with fail
  obtain ⟨q0, q1, q2, -⟩ := ((CBlk.new w2 x).al (.cells #[.int .i64 y.c, .int .i64 y.m, .int .i64 y.p] 23)).cells
  obtain ⟨r0, r1, r2, -⟩ := (show CBlk ((w2.alloc (.cells #[.int .i64 x.c, .int .i64 x.m, .int .i64 x.p] 23)).alloc (.cells #[.int .i64 y.c, .int .i64 y.m, .int .i64 y.p] 23)) (w2.heap.size + 1) y from heap_at (by simp)).cells
  have B2 := Lib.hid (below_al (below_al B1.out (.cells #[.int .i64 x.c, .int .i64 x.m, .int .i64 x.p] 23)) (.cells #[.int .i64 y.c, .int .i64 y.m, .int .i64 y.p] 23))
  refine wp_region_mono (by kernel_rfl) (by kernel_rfl) ?_
  simp only [List.map_cons, List.map_nil]
  repeat (first
    | (apply wpM_is
       · (intro us W hW hg K hK
          clear hg
          have c0 := hold hW q0
          have c1 := hold hW q1
          have c2 := hold hW q2
          have c3 := hold hW r0
          have c4 := hold hW r1
          have c5 := hold hW r2
          simp only [fillA]
          go_simp
          first
          | exact hK _ (Below.refl _ _))
       simp only [setD, List.set_cons_zero, List.set_cons_succ]))
  refine wpM_any (fun v W => VRow W [x, y] v) (fun v W W' h hb => h.below hb) ?_ ?_
  · intro us W hW hg K hK
    clear hg
    simp only [fillA]
    go_simp
    exact hK _ _ (row_new [x, y] (heap_alloc_new _ _)) (below_al (Below.refl _ _) _)
  simp only [setD, List.set_cons_zero, List.set_cons_succ]
  apply wpM_is
  · intro us W hW hg K hK
    have h0 := hg 25 (List.elem_iff.1 (by kernel_rfl)) _ rfl
    clear hg
    simp only [fillA]
    go_simp
    (with_reducible refine (A1.out _ _ h0).mono ?_)
    rintro e w' ⟨rfl, hb⟩
    exact hK _ hb
  simp only [setD, List.set_cons_zero, List.set_cons_succ]
  repeat (first
    | (apply wpM_is
       · (intro us W hW hg K hK
          clear hg
          have c0 := hold hW q0
          have c1 := hold hW q1
          have c2 := hold hW q2
          have c3 := hold hW r0
          have c4 := hold hW r1
          have c5 := hold hW r2
          simp only [fillA]
          go_simp
          first
          | exact hK _ (Below.refl _ _))
       simp only [setD, List.set_cons_zero, List.set_cons_succ]))
  refine wpM_any (fun v W => VRow W [y, x] v) (fun v W W' h hb => h.below hb) ?_ ?_
  · intro us W hW hg K hK
    clear hg
    simp only [fillA]
    go_simp
    exact hK _ _ (row_new [y, x] (heap_alloc_new _ _)) (below_al (Below.refl _ _) _)
  simp only [setD, List.set_cons_zero, List.set_cons_succ]
  apply wpM_is
  · intro us W hW hg K hK
    have h0 := hg 29 (List.elem_iff.1 (by kernel_rfl)) _ rfl
    clear hg
    simp only [fillA]
    go_simp
    (with_reducible refine (A2.out _ _ h0).mono ?_)
    rintro e w' ⟨rfl, hb⟩
    exact hK _ hb
  simp only [setD, List.set_cons_zero, List.set_cons_succ]
  repeat (first
    | (apply wpM_is
       · (intro us W hW hg K hK
          clear hg
          have c0 := hold hW q0
          have c1 := hold hW q1
          have c2 := hold hW q2
          have c3 := hold hW r0
          have c4 := hold hW r1
          have c5 := hold hW r2
          simp only [fillA]
          go_simp
          first
          | exact hK _ (Below.refl _ _))
       simp only [setD, List.set_cons_zero, List.set_cons_succ]))
  refine wpM_any (fun v W => VRow W [x, y] v) (fun v W W' h hb => h.below hb) ?_ ?_
  · intro us W hW hg K hK
    clear hg
    simp only [fillA]
    go_simp
    exact hK _ _ (row_new [x, y] (heap_alloc_new _ _)) (below_al (Below.refl _ _) _)
  simp only [setD, List.set_cons_zero, List.set_cons_succ]
  apply wpM_is
  · intro us W hW hg K hK
    have h0 := hg 35 (List.elem_iff.1 (by kernel_rfl)) _ rfl
    clear hg
    simp only [fillA]
    go_simp
    (with_reducible refine (A1.out _ _ h0).mono ?_)
    rintro e w' ⟨rfl, hb⟩
    exact hK _ hb
  simp only [setD, List.set_cons_zero, List.set_cons_succ]
  repeat (first
    | (apply wpM_is
       · (intro us W hW hg K hK
          clear hg
          have c0 := hold hW q0
          have c1 := hold hW q1
          have c2 := hold hW q2
          have c3 := hold hW r0
          have c4 := hold hW r1
          have c5 := hold hW r2
          simp only [fillA]
          go_simp
          first
          | exact hK _ (Below.refl _ _)
          | ((with_reducible refine (S1.out _).mono ?_); rintro e w' ⟨rfl, hb⟩; exact hK _ hb))
       simp only [setD, List.set_cons_zero, List.set_cons_succ]))
  refine wpM_any (fun v W => VRow W [x] v) (fun v W W' h hb => h.below hb) ?_ ?_
  · intro us W hW hg K hK
    clear hg
    simp only [fillA]
    go_simp
    exact hK _ _ (row_new [x] (heap_alloc_new _ _)) (below_al (Below.refl _ _) _)
  simp only [setD, List.set_cons_zero, List.set_cons_succ]
  apply wpM_is
  · intro us W hW hg K hK
    have h0 := hg 44 (List.elem_iff.1 (by kernel_rfl)) _ rfl
    clear hg
    simp only [fillA]
    go_simp
    (with_reducible refine (A3.out _ _ h0).mono ?_)
    rintro e w' ⟨rfl, hb⟩
    exact hK _ hb
  simp only [setD, List.set_cons_zero, List.set_cons_succ]
  repeat (first
    | (apply wpM_is
       · (intro us W hW hg K hK
          clear hg
          have c0 := hold hW q0
          have c1 := hold hW q1
          have c2 := hold hW q2
          have c3 := hold hW r0
          have c4 := hold hW r1
          have c5 := hold hW r2
          simp only [fillA]
          go_simp
          first
          | exact hK _ (Below.refl _ _))
       simp only [setD, List.set_cons_zero, List.set_cons_succ]))
  refine wpM_any (fun v W => VRow W [x, y, x] v) (fun v W W' h hb => h.below hb) ?_ ?_
  · intro us W hW hg K hK
    clear hg
    simp only [fillA]
    go_simp
    exact hK _ _ (row_new [x, y, x] (heap_alloc_new _ _)) (below_al (Below.refl _ _) _)
  simp only [setD, List.set_cons_zero, List.set_cons_succ]
  apply wpM_is
  · intro us W hW hg K hK
    have h0 := hg 53 (List.elem_iff.1 (by kernel_rfl)) _ rfl
    clear hg
    simp only [fillA]
    go_simp
    (with_reducible refine (A4.out _ _ h0).mono ?_)
    rintro e w' ⟨rfl, hb⟩
    exact hK _ hb
  simp only [setD, List.set_cons_zero, List.set_cons_succ]
  repeat (first
    | (apply wpM_is
       · (intro us W hW hg K hK
          clear hg
          have c0 := hold hW q0
          have c1 := hold hW q1
          have c2 := hold hW q2
          have c3 := hold hW r0
          have c4 := hold hW r1
          have c5 := hold hW r2
          simp only [fillA]
          go_simp
          first
          | exact hK _ (Below.refl _ _))
       simp only [setD, List.set_cons_zero, List.set_cons_succ]))
  refine wpM_any (fun v W => VRow W [x, y] v) (fun v W W' h hb => h.below hb) ?_ ?_
  · intro us W hW hg K hK
    clear hg
    simp only [fillA]
    go_simp
    exact hK _ _ (row_new [x, y] (heap_alloc_new _ _)) (below_al (Below.refl _ _) _)
  simp only [setD, List.set_cons_zero, List.set_cons_succ]
  apply wpM_is
  · intro us W hW hg K hK
    have h0 := hg 57 (List.elem_iff.1 (by kernel_rfl)) _ rfl
    clear hg
    simp only [fillA]
    go_simp
    (with_reducible refine (A1.out _ _ h0).mono ?_)
    rintro e w' ⟨rfl, hb⟩
    exact hK _ hb
  simp only [setD, List.set_cons_zero, List.set_cons_succ]
  repeat (first
    | (apply wpM_is
       · (intro us W hW hg K hK
          clear hg
          have c0 := hold hW q0
          have c1 := hold hW q1
          have c2 := hold hW q2
          have c3 := hold hW r0
          have c4 := hold hW r1
          have c5 := hold hW r2
          simp only [fillA]
          go_simp
          first
          | exact hK _ (Below.refl _ _))
       simp only [setD, List.set_cons_zero, List.set_cons_succ]))
  refine wpM_any (fun v W => VRow W [s, x] v) (fun v W W' h hb => h.below hb) ?_ ?_
  · intro us W hW hg K hK
    clear hg
    simp only [fillA]
    go_simp
    exact hK _ _ (row_new [s, x] (heap_alloc_new _ _)) (below_al (Below.refl _ _) _)
  simp only [setD, List.set_cons_zero, List.set_cons_succ]
  apply wpM_is
  · intro us W hW hg K hK
    have h0 := hg 60 (List.elem_iff.1 (by kernel_rfl)) _ rfl
    clear hg
    simp only [fillA]
    go_simp
    (with_reducible refine (A5.out _ _ h0).mono ?_)
    rintro e w' ⟨rfl, hb⟩
    exact hK _ hb
  simp only [setD, List.set_cons_zero, List.set_cons_succ]
  repeat (first
    | (apply wpM_is
       · (intro us W hW hg K hK
          clear hg
          have c0 := hold hW q0
          have c1 := hold hW q1
          have c2 := hold hW q2
          have c3 := hold hW r0
          have c4 := hold hW r1
          have c5 := hold hW r2
          simp only [fillA]
          go_simp
          first
          | exact hK _ (Below.refl _ _))
       simp only [setD, List.set_cons_zero, List.set_cons_succ]))
  refine wpM_any (fun v W => VRow W [x, y] v) (fun v W W' h hb => h.below hb) ?_ ?_
  · intro us W hW hg K hK
    clear hg
    simp only [fillA]
    go_simp
    exact hK _ _ (row_new [x, y] (heap_alloc_new _ _)) (below_al (Below.refl _ _) _)
  simp only [setD, List.set_cons_zero, List.set_cons_succ]
  apply wpM_is
  · intro us W hW hg K hK
    have h0 := hg 68 (List.elem_iff.1 (by kernel_rfl)) _ rfl
    clear hg
    simp only [fillA]
    go_simp
    (with_reducible refine (A1.out _ _ h0).mono ?_)
    rintro e w' ⟨rfl, hb⟩
    exact hK _ hb
  simp only [setD, List.set_cons_zero, List.set_cons_succ]
  repeat (first
    | (apply wpM_is
       · (intro us W hW hg K hK
          clear hg
          have c0 := hold hW q0
          have c1 := hold hW q1
          have c2 := hold hW q2
          have c3 := hold hW r0
          have c4 := hold hW r1
          have c5 := hold hW r2
          simp only [fillA]
          go_simp
          first
          | exact hK _ (Below.refl _ _)
          | ((with_reducible refine (L1.out _).mono ?_); rintro e w' ⟨rfl, hb⟩; exact hK _ hb)
          | ((with_reducible refine (W1.out _ (below_tr B2.out hW)).mono ?_); rintro e w' ⟨rfl, hb⟩; exact hK _ hb))
       simp only [setD, List.set_cons_zero, List.set_cons_succ]))
  intro us W hW hg
  simp only [fillA]
  clear hg
  go_wp2_with fail
  go_ret
  exact ⟨rfl, below_tr B2.out hW⟩
end
end Go.Proofs.YtjoakpgcflhfnaaDoor
