/- Package fun: calls of min, max, len, abs; the law's example. -/
import Derived.Test.YtoaachefdbepiaaDoorFunE
namespace Go.Proofs.YtoaachefdbepiaaDoor
open Go.RowKit
set_option linter.unusedVariables false
set_option linter.unusedSimpArgs false

theorem isMin_one {m k : Int} {xs : List Int} (h : IsMin m xs) (g : IsMin k xs) : m = k := Int.le_antisymm (h.2 k g.1) (g.2 m h.1)
theorem isMax_one {m k : Int} {xs : List Int} (h : IsMax m xs) (g : IsMax k xs) : m = k := Int.le_antisymm (g.2 m h.1) (h.2 k g.1)
theorem takes1 : Takes [1] := ⟨⟨by decide, by decide⟩, by simp⟩
theorem takes_one (k : Int) (hk : 0 ≤ k ∧ k ≤ 6) : Takes [k] := ⟨⟨by simp, by simp⟩, fun x hx => by simp at hx; omega⟩
theorem takes_two (k j : Int) (hk : 0 ≤ k ∧ k ≤ 6) (hj : 0 ≤ j ∧ j ≤ 6) : Takes [k, j] := ⟨⟨by simp, by simp⟩, fun x hx => by simp at hx; omega⟩
/-- Any number of arguments of one kind. -/
theorem check_many {k : Int} {l : List VL} (h0 : 0 < l.length) (h : ∀ v ∈ l, fitsB k v = true) : checkR [k] true l = 0 := by
  unfold checkR
  rw [if_neg (by intro h; rcases h with h | ⟨-, h⟩; · simp only [List.length_cons, List.length_nil] at h; omega
                 · cases h), if_pos]
  refine fitAllB_ok fun j u hj hu => ?_
  have : kindAt [k] j = k := by simp [kindAt]
  rw [this]
  exact h u (List.mem_of_getElem? hu)
theorem check_many_bad {k : Int} {l : List VL} (h0 : 0 < l.length) {i : Nat} {u : VL} (hu : l[i]? = some u) (h : fitsB k u = false) : checkR [k] true l = 7 := by
  unfold checkR
  have e : kindAt [k] i = k := by simp [kindAt]
  rw [if_neg (by intro h; rcases h with h | ⟨-, h⟩; · simp only [List.length_cons, List.length_nil] at h; omega
                 · cases h), fitAllB_bad hu (by rw [e]; exact h)]
  rfl
theorem check_one {k : Int} {v : VL} (h : fitsB k v = true) : checkR [k] false [v] = 0 := by
  unfold checkR
  rw [if_neg (by simp), if_pos]
  refine fitAllB_ok fun j u hj hu => ?_
  have e : j = 0 := by simp at hj; omega
  subst e
  simp at hu; subst hu
  simpa [kindAt] using h
theorem check_one_bad {k : Int} {v : VL} (h : fitsB k v = false) : checkR [k] false [v] = 7 := by
  unfold checkR
  rw [if_neg (by simp), fitAllB_bad (i := 0) (u := v) rfl (by simpa [kindAt] using h)]
  rfl
theorem check_two {k j : Int} {v u : VL} (h : fitsB k v = true) (g : fitsB j u = true) : checkR [k, j] false [v, u] = 0 := by
  unfold checkR
  rw [if_neg (by simp), if_pos]
  refine fitAllB_ok fun i x hi hx => ?_
  match i, hx with
  | 0, hx => simp at hx; subst hx; simpa [kindAt] using h
  | 1, hx => simp at hx; subst hx; simpa [kindAt] using g
  | n + 2, hx => simp at hx
theorem awake_min : IsMin 2 ([vnum 3, vnum 2].map VL.num) := by unfold IsMin; simp [vnum, VL.num]
section
variable (w : World)
theorem run_least (a : Array Value) (W : World) : (callFunc 30 a).run Tryd.prog W = .ok (.enter 30 a) W := run_enter Tryd.func30 (by kernel_rfl) (by kernel_rfl) a W
theorem run_greatest (a : Array Value) (W : World) : (callFunc 31 a).run Tryd.prog W = .ok (.enter 31 a) W := run_enter Tryd.func31 (by kernel_rfl) (by kernel_rfl) a W
theorem run_size (a : Array Value) (W : World) : (callFunc 33 a).run Tryd.prog W = .ok (.enter 33 a) W := run_enter Tryd.func33 (by kernel_rfl) (by kernel_rfl) a W
theorem run_abs (a : Array Value) (W : World) : (callFunc 37 a).run Tryd.prog W = .ok (.enter 37 a) W := run_enter Tryd.func37 (by kernel_rfl) (by kernel_rfl) a W
theorem fits_num {v : VL} (h : v.kind = 1) : fitsB 1 v = true := by simp [fitsB, h]
theorem call_min (D : Nat) (l : List VL) (lv : Value) (h : RowRd w D l lv) (h0 : 0 < l.length) (hn : l.length ≤ 100000) (hk : ∀ v ∈ l, v.kind = 1) (m : Int) (hm : IsMin m (l.map VL.num)) :
    Calls Tryd.prog 7 #[.string ⟨#[109, 105, 110]⟩, lv] w (IsTold 1 m ⟨#[]⟩ 0 w) :=
  call_told w _ [1] true 30 fnamed_min (takes_one 1 (by omega)) D l lv h (check_many h0 fun v hv => fits_num (hk v hv)) 1 m ⟨#[]⟩ 0 run_least fun W hW =>
    (fleast W D l lv (h.below hW) h0 hn).mono fun e w' ⟨m', hm', ht⟩ => by rw [isMin_one hm hm']; exact ht
theorem call_max (D : Nat) (l : List VL) (lv : Value) (h : RowRd w D l lv) (h0 : 0 < l.length) (hn : l.length ≤ 100000) (hk : ∀ v ∈ l, v.kind = 1) (m : Int) (hm : IsMax m (l.map VL.num)) :
    Calls Tryd.prog 7 #[.string ⟨#[109, 97, 120]⟩, lv] w (IsTold 1 m ⟨#[]⟩ 0 w) :=
  call_told w _ [1] true 31 fnamed_max (takes_one 1 (by omega)) D l lv h (check_many h0 fun v hv => fits_num (hk v hv)) 1 m ⟨#[]⟩ 0 run_greatest fun W hW =>
    (fgreatest W D l lv (h.below hW) h0 hn).mono fun e w' ⟨m', hm', ht⟩ => by rw [isMax_one hm hm']; exact ht
set_option maxHeartbeats 2000000 in
set_option maxRecDepth 20000 in
theorem fsize (D : Nat) (v : VL) (lv : Value) (h : RowRd w D [v] lv) (hs : v.text.size ≤ 1000000) : Calls Tryd.prog 33 #[lv] w (IsTold 1 (if v.kind = 2 then (v.text.size : Int) else (v.kids.length : Int)) ⟨#[]⟩ 0 w) := by
  obtain ⟨ao, cap, rfl, hat⟩ := h.at
  obtain ⟨g, o, lu, rfl, -, c0, c1, c2, c3, hr⟩ := hat 0 v rfl
  obtain ⟨lao, lcap, rfl⟩ := hr.shape
  simp only [Nat.zero_mul, Nat.add_zero] at c0 c1 c2 c3
  have hg : g < w.heap.size := World.block_lt_of_cell? w _ c0
  clear hat hr h
  by_cases hk : v.kind = 2
  · rw [if_pos hk]
    go_enter Tryd.func33, Tryd.ntmps33
    go_wp2_with fail
    with_reducible refine (finteger _ _).mono ?_
    rintro e w2 ⟨rfl, hb2⟩
    obtain ⟨⟨r0, r1, r2, r3, rl⟩, f0, f1, f2, f3⟩ := ((NBlk.new w 0 0 ⟨#[]⟩).below hb2).full
    have B2 := Lib.hid (below_tr (below_al (Below.refl w.heap.size w) _) hb2)
    clear hb2
    go_wp2_with fail
    exact bodyPost_ret (v := .tuple #[.agg #[.int .i64 1, .int .i64 v.text.size, .string ⟨#[]⟩, .slice none 0 0], .int .i64 0]) (by simp [results, Tryd.results33, go_sem, r0, r1, r2, r3]) rfl ⟨rfl, below_set4 B2.out (Nat.le_refl _) _ _ _ _⟩
  · rw [if_neg hk]
    have hkb : (v.kind == 2) = false := by simpa using hk
    go_enter Tryd.func33, Tryd.ntmps33
    go_wp2_with fail
    with_reducible refine (finteger _ _).mono ?_
    rintro e w2 ⟨rfl, hb2⟩
    obtain ⟨⟨r0, r1, r2, r3, rl⟩, f0, f1, f2, f3⟩ := ((NBlk.new w 0 0 ⟨#[]⟩).below hb2).full
    have B2 := Lib.hid (below_tr (below_al (Below.refl w.heap.size w) _) hb2)
    clear hb2
    go_wp2_with fail
    exact bodyPost_ret (v := .tuple #[.agg #[.int .i64 1, .int .i64 v.kids.length, .string ⟨#[]⟩, .slice none 0 0], .int .i64 0]) (by simp [results, Tryd.results33, go_sem, r0, r1, r2, r3]) rfl ⟨rfl, below_set4 B2.out (Nat.le_refl _) _ _ _ _⟩
def absR (n : Int) : VL × Int := if n < 0 then numR (fitR (0 - n)) else (vnum n, 0)
set_option maxHeartbeats 2000000 in
set_option maxRecDepth 20000 in
theorem fabs (D : Nat) (v : VL) (lv : Value) (h : RowRd w D [v] lv) (hk : v.kind = 1) (hi : I64 v.num) : Calls Tryd.prog 37 #[lv] w (Told (absR v.num) w) := by
  have hh := h
  obtain ⟨ao, cap, rfl, hat⟩ := h.at
  obtain ⟨g, o, lu, rfl, -, c0, c1, c2, c3, hr⟩ := hat 0 v rfl
  have ONE := Lib.hid (fun W (hw : Below w.heap.size w W) => vone W (D - 1) v lu 9 (hr.below hw) hi)
  obtain ⟨lao, lcap, rfl⟩ := hr.shape
  simp only [Nat.zero_mul, Nat.add_zero] at c0 c1 c2 c3
  have hg : g < w.heap.size := World.block_lt_of_cell? w _ c0
  clear hat hr h hh
  unfold absR
  by_cases hn : v.num < 0
  · rw [if_pos hn]
    rw [show oneR 9 v = numR (fitR (0 - v.num)) by unfold oneR; rw [if_neg (by decide), if_pos rfl, if_pos hk]] at ONE
    generalize numR (fitR (0 - v.num)) = r at *
    clear hi hk
    go_enter Tryd.func37, Tryd.ntmps37
    go_wp2_with fail
    with_reducible refine (ONE.out _ (below_al (Below.refl _ _) _)).mono ?_
    rintro e w2 ⟨rfl, hb2⟩
    obtain ⟨⟨r0, r1, r2, r3, rl⟩, f0, f1, f2, f3⟩ := ((NBlk.new w 0 0 ⟨#[]⟩).below hb2).full
    have B2 := Lib.hid (below_tr (below_al (Below.refl w.heap.size w) _) hb2)
    clear hb2
    go_wp2_with fail
    exact bodyPost_ret (v := .tuple #[.agg #[.int .i64 r.1.kind, .int .i64 r.1.num, .string r.1.text, .slice none 0 0], .int .i64 r.2]) (by simp [results, Tryd.results37, go_sem, r0, r1, r2, r3]) rfl ⟨rfl, below_set4 B2.out (Nat.le_refl _) _ _ _ _⟩
  · rw [if_neg hn]
    clear hi hk ONE
    go_enter Tryd.func37, Tryd.ntmps37
    go_wp2_with fail
    with_reducible refine (finteger _ _).mono ?_
    rintro e w2 ⟨rfl, hb2⟩
    obtain ⟨⟨r0, r1, r2, r3, rl⟩, f0, f1, f2, f3⟩ := ((NBlk.new w 0 0 ⟨#[]⟩).below hb2).full
    have B2 := Lib.hid (below_tr (below_al (Below.refl w.heap.size w) _) hb2)
    clear hb2
    go_wp2_with fail
    exact bodyPost_ret (v := .tuple #[.agg #[.int .i64 1, .int .i64 v.num, .string ⟨#[]⟩, .slice none 0 0], .int .i64 0]) (by simp [results, Tryd.results37, go_sem, r0, r1, r2, r3]) rfl ⟨rfl, below_set4 B2.out (Nat.le_refl _) _ _ _ _⟩
theorem call_len (D : Nat) (v : VL) (lv : Value) (h : RowRd w D [v] lv) (hs : v.text.size ≤ 1000000) (hk : v.kind = 2 ∨ v.kind = 4) :
    Calls Tryd.prog 7 #[.string ⟨#[108, 101, 110]⟩, lv] w (IsTold 1 (if v.kind = 2 then (v.text.size : Int) else (v.kids.length : Int)) ⟨#[]⟩ 0 w) :=
  call_told w _ [6] false 33 fnamed_len (takes_one 6 (by omega)) D [v] lv h (check_one (by rcases hk with hk | hk <;> simp [fitsB, hk])) _ _ _ _ run_size fun W hW => fsize W D v lv (h.below hW) hs
theorem call_abs (D : Nat) (v : VL) (lv : Value) (h : RowRd w D [v] lv) (hk : v.kind = 1) (hi : I64 v.num) :
    Calls Tryd.prog 7 #[.string ⟨#[97, 98, 115]⟩, lv] w (Told (absR v.num) w) :=
  call_told w _ [1] false 37 fnamed_abs (takes_one 1 (by omega)) D [v] lv h (check_one (fits_num hk)) _ _ _ _ run_abs fun W hW => fabs W D v lv (h.below hW) hk hi
theorem lval5 (n : Int) : Calls Tryd.prog 11 #[.int .i64 n] w (Made (.agg #[.int .i64 1, .int .i64 n, .string ⟨#[]⟩, .slice none 0 0]) w) := by
  go_enter Tryd.func11, Tryd.ntmps11
  go_wp2_with fail
  exact bodyPost_ret (v := .agg #[.int .i64 1, .int .i64 n, .string ⟨#[]⟩, .slice none 0 0]) (by simp [results, Tryd.results11, go_sem]) rfl ⟨rfl, below_al (Below.refl _ _) _⟩
set_option maxRecDepth 20000 in
theorem law_awake5 : Calls Tryd.prog 4 #[] w (Made (.bool true) w) := by
  go_enter Tryd.func4, Tryd.ntmps4
  go_wp2_with fail
  with_reducible refine (lval5 _ _).mono ?_
  rintro e w1 ⟨rfl, hb1⟩
  go_wp2_with fail
  with_reducible refine (lval5 _ _).mono ?_
  rintro e w2 ⟨rfl, hb2⟩
  have B2 := Lib.hid (below_tr hb1 hb2)
  clear hb1 hb2
  go_wp2_with fail
  refine (call_min _ 1 [vnum 3, vnum 2] _ (row_two (heap_at rfl) (RowRd.nil _ 0 none 0) (RowRd.nil _ 0 none 0)) (by simp) (by simp) (by simp [vnum, VL.kind]) 2 awake_min).mono ?_
  rintro e w3 ⟨rfl, hb3⟩
  have B3 := Lib.hid (below_tr (below_al B2.out _) hb3)
  clear hb3
  go_wp2_with fail
  refine (lnum _ _).mono ?_
  rintro e w4 ⟨rfl, rfl⟩
  go_wp2_with fail
  go_ret
  exact ⟨rfl, below_al B3.out _⟩
end
end Go.Proofs.YtoaachefdbepiaaDoor
