/- Package vec: amounts: what they are, how they are read; sums, differences, what is at most what, the greatest. -/
import Derived.Test.YtjoakpgcflhfnaaDoorBase
namespace Go.Proofs.YtjoakpgcflhfnaaDoor
open Go.RowKit
set_option linter.unusedVariables false
set_option linter.unusedSimpArgs false

/-- An amount. -/
structure V3 where
  c : Int
  m : Int
  p : Int
def V3.val (v : V3) : Value := .agg #[.int .i64 v.c, .int .i64 v.m, .int .i64 v.p]
def V3.cells (v : V3) : List Value := [.int .i64 v.c, .int .i64 v.m, .int .i64 v.p]
def z3 : V3 := ⟨0, 0, 0⟩
/-- Each number at most b, above or below nought. -/
def V3.Upto (b : Int) (v : V3) : Prop := (-b ≤ v.c ∧ v.c ≤ b) ∧ (-b ≤ v.m ∧ v.m ≤ b) ∧ (-b ≤ v.p ∧ v.p ≤ b)
def V3.I (v : V3) : Prop := (-9223372036854775808 ≤ v.c ∧ v.c ≤ 9223372036854775807) ∧ (-9223372036854775808 ≤ v.m ∧ v.m ≤ 9223372036854775807) ∧ (-9223372036854775808 ≤ v.p ∧ v.p ≤ 9223372036854775807)
/-- Row l as the slice value lv reads. -/
def VRow (w : World) (l : List V3) (lv : Value) : Prop := ∃ ao cap, lv = .slice ao l.length cap ∧ l.length ≤ cap ∧ ∀ (i : Nat) (u : V3), l[i]? = some u → ∃ g o, ao = some ⟨g, o, none⟩ ∧
  w.cell? ⟨g, o + i * 3, none⟩ = some (.int .i64 u.c) ∧ w.cell? ⟨g, o + i * 3 + 1, none⟩ = some (.int .i64 u.m) ∧ w.cell? ⟨g, o + i * 3 + 2, none⟩ = some (.int .i64 u.p)
theorem VRow.below {w w' : World} {l : List V3} {lv : Value} (h : VRow w l lv) (hb : Below w.heap.size w w') : VRow w' l lv := by
  obtain ⟨ao, cap, e, hcap, hc⟩ := h
  refine ⟨ao, cap, e, hcap, fun i u hu => ?_⟩
  obtain ⟨g, o, e2, c0, c1, c2⟩ := hc i u hu
  exact ⟨g, o, e2, hold hb c0, hold hb c1, hold hb c2⟩
theorem VRow.nil (w : World) : VRow w [] (.slice none 0 0) := ⟨none, 0, rfl, Nat.le_refl _, fun i u hu => by simp at hu⟩
/-- A block of one amount. -/
def CBlk (w : World) (g : Nat) (v : V3) : Prop := w.heap[g]? = some (.cells #[.int .i64 v.c, .int .i64 v.m, .int .i64 v.p] 23 (0, 0))
theorem CBlk.lt {w : World} {g : Nat} {v : V3} (h : CBlk w g v) : g < w.heap.size := by
  rcases Nat.lt_or_ge g w.heap.size with hlt | hge
  · exact hlt
  · unfold CBlk at h; rw [Array.getElem?_eq_none hge] at h; cases h
theorem CBlk.cells {w : World} {g : Nat} {v : V3} (h : CBlk w g v) :
    w.cell? ⟨g, 0, none⟩ = some (.int .i64 v.c) ∧ w.cell? ⟨g, 1, none⟩ = some (.int .i64 v.m) ∧ w.cell? ⟨g, 2, none⟩ = some (.int .i64 v.p) ∧ g < w.heap.size :=
  ⟨cell_of_row w g 0 _ _ _ h, cell_of_row w g 1 _ _ _ h, cell_of_row w g 2 _ _ _ h, h.lt⟩
theorem CBlk.free {w : World} {g : Nat} {v : V3} (h : CBlk w g v) (o : Nat) : w.frozen? ⟨g, o, none⟩ = false := by
  unfold CBlk at h
  simp [World.frozen?, h]
theorem CBlk.below {w w' : World} {g : Nat} {v : V3} (h : CBlk w g v) (hb : Below w.heap.size w w') : CBlk w' g v := (hb.block g h.lt).trans h
theorem CBlk.new (w : World) (v : V3) : CBlk (w.alloc (.cells #[.int .i64 v.c, .int .i64 v.m, .int .i64 v.p] 23)) w.heap.size v := heap_alloc_new w _
theorem CBlk.al {w : World} {g : Nat} {v : V3} (h : CBlk w g v) (O : Obj) : CBlk (w.alloc O) g v := h.below (below_al (Below.refl _ _) _)
theorem CBlk.set {w : World} {g : Nat} {v : V3} (h : CBlk w g v) (u : V3) : CBlk (((w.setCell ⟨g, 0, none⟩ (.int .i64 u.c)).setCell ⟨g, 1, none⟩ (.int .i64 u.m)).setCell ⟨g, 2, none⟩ (.int .i64 u.p)) g u := by
  have h0 := heap_setCell_same w g 0 _ _ (.int .i64 u.c) h
  have h1 := heap_setCell_same _ g 1 _ _ (.int .i64 u.m) h0
  exact heap_setCell_same _ g 2 _ _ (.int .i64 u.p) h1
theorem CBlk.far {w : World} {g f : Nat} {v : V3} (h : CBlk w g v) (hf : g ≠ f) (a b c : Value) : CBlk (((w.setCell ⟨f, 0, none⟩ a).setCell ⟨f, 1, none⟩ b).setCell ⟨f, 2, none⟩ c) g v := by
  unfold CBlk at *
  rw [Below.heap_setCell _ _ _ _ hf, Below.heap_setCell _ _ _ _ hf, Below.heap_setCell _ _ _ _ hf]; exact h
theorem below_set3 {B : Nat} {w W : World} (h : Below B w W) {g : Nat} (hg : B ≤ g) (v0 v1 v2 : Value) : Below B w (((W.setCell ⟨g, 0, none⟩ v0).setCell ⟨g, 1, none⟩ v1).setCell ⟨g, 2, none⟩ v2) :=
  ((h.setCell hg _).setCell hg _).setCell hg _
def addV (a b : V3) : V3 := ⟨a.c + b.c, a.m + b.m, a.p + b.p⟩
def subV (a b : V3) : V3 := ⟨a.c - b.c, a.m - b.m, a.p - b.p⟩
def leV (a b : V3) : Bool := decide (a.c ≤ b.c) && decide (a.m ≤ b.m) && decide (a.p ≤ b.p)
def sumV (l : List V3) : V3 := l.foldl addV z3
def max2V (a b : V3) : V3 := ⟨max a.c b.c, max a.m b.m, max a.p b.p⟩
def mostV : V3 := ⟨1099511627776, 1099511627776, 1099511627776⟩
def mayV (v : V3) : Bool := leV z3 v && leV v mostV
section
variable (w : World)
theorem vle_any (a b : V3) : Calls Tryd.prog 15 #[.agg #[.int .i64 a.c, .int .i64 a.m, .int .i64 a.p], .agg #[.int .i64 b.c, .int .i64 b.m, .int .i64 b.p]] w (Made (.bool (leV a b)) w) := by
  have E : Hid (leV a b = (decide (a.c ≤ b.c) && decide (a.m ≤ b.m) && decide (a.p ≤ b.p))) := rfl
  by_cases h1 : a.c ≤ b.c
  · by_cases h2 : a.m ≤ b.m
    · by_cases h3 : a.p ≤ b.p
      all_goals
        go_enter Tryd.func15, Tryd.ntmps15
        go_wp2_with fail
        go_ret
        exact ⟨by rw [E.out]; simp [h1, h2, h3], below_al (below_al (Below.refl _ _) _) _⟩
    · go_enter Tryd.func15, Tryd.ntmps15
      go_wp2_with fail
      go_ret
      exact ⟨by rw [E.out]; simp; omega, below_al (below_al (Below.refl _ _) _) _⟩
  · go_enter Tryd.func15, Tryd.ntmps15
    go_wp2_with fail
    go_ret
    exact ⟨by rw [E.out]; simp; omega, below_al (below_al (Below.refl _ _) _) _⟩
theorem vsub_any (a b : V3) (h : (subV a b).I) : Calls Tryd.prog 13 #[.agg #[.int .i64 a.c, .int .i64 a.m, .int .i64 a.p], .agg #[.int .i64 b.c, .int .i64 b.m, .int .i64 b.p]] w (Made (.agg #[.int .i64 (subV a b).c, .int .i64 (subV a b).m, .int .i64 (subV a b).p]) w) := by
  obtain ⟨⟨h1, h2⟩, ⟨h3, h4⟩, ⟨h5, h6⟩⟩ := h
  unfold subV at *
  simp only at h1 h2 h3 h4 h5 h6 ⊢
  go_enter Tryd.func13, Tryd.ntmps13
  go_wp2_with fail
  exact bodyPost_ret (v := .agg #[.int .i64 (a.c - b.c), .int .i64 (a.m - b.m), .int .i64 (a.p - b.p)]) (by simp [results, Tryd.results13, go_sem]) rfl ⟨rfl, below_al (below_al (below_al (Below.refl _ _) _) _) _⟩
theorem vmost_any : Calls Tryd.prog 19 #[] w (Made mostV.val w) := by
  go_enter Tryd.func19, Tryd.ntmps19
  go_wp2_with fail
  exact bodyPost_ret (v := mostV.val) (by simp [results, Tryd.results19, go_sem, mostV, V3.val]) rfl ⟨rfl, below_al (Below.refl _ _) _⟩
set_option maxHeartbeats 4000000 in
set_option maxRecDepth 20000 in
theorem vadd_any (l : List V3) (lv : Value) (h : VRow w l lv) (hl : l.length ≤ 1000) (hb : ∀ v ∈ l, v.Upto 4398046511104) :
    Calls Tryd.prog 11 #[lv] w (Made (.agg #[.int .i64 (sumV l).c, .int .i64 (sumV l).m, .int .i64 (sumV l).p]) w) := by
  obtain ⟨ao, cap, rfl, hcap, hat⟩ := h
  have HAT := Lib.hid hat
  have HB := Lib.hid hb
  clear hat hb hcap
  go_enter Tryd.func11, Tryd.ntmps11
  go_wp2_with fail
  have R0 := Lib.hid ((CBlk.new w z3).al (.cells #[.int .i64 0, .int .i64 0, .int .i64 0] 23))
  have T0 := Lib.hid (show CBlk ((w.alloc (.cells #[.int .i64 0, .int .i64 0, .int .i64 0] 23)).alloc (.cells #[.int .i64 0, .int .i64 0, .int .i64 0] 23)) (w.heap.size + 1) z3 from heap_at (by simp))
  have B0 := Lib.hid (below_al (below_al (Below.refl w.heap.size w) (.cells #[.int .i64 0, .int .i64 0, .int .i64 0] 23)) (.cells #[.int .i64 0, .int .i64 0, .int .i64 0] 23))
  go_loopg [8] l.length (fun m iv wr => ∃ (k : Nat) (s : V3), iv = .int .i64 k ∧ l.length - k ≤ m ∧ k ≤ l.length ∧ Below w.heap.size w wr ∧ CBlk wr (w.heap.size + 1) s ∧ CBlk wr w.heap.size z3 ∧ s.Upto ((k : Int) * 4398046511104) ∧ Hid (sumV l = (l.drop k).foldl addV s))
  case atStart => exact ⟨0, z3, rfl, Nat.le_refl _, Nat.zero_le _, B0.out, T0.out, R0.out, by simp [V3.Upto, z3], Lib.hid rfl⟩
  case round =>
    obtain ⟨k, s, rfl, hm, hk, hb, hT, hR, hU, SU⟩ := hrel
    have HM := Lib.hid hm
    have BR := Lib.hid hb
    have TB := Lib.hid hT
    have RB := Lib.hid hR
    have UB := Lib.hid hU
    clear hm hb hT hR
    obtain ⟨t0, t1, t2, tl⟩ := TB.out.cells
    by_cases hlt : k < l.length
    · obtain ⟨u, hu⟩ : ∃ u, l[k]? = some u := ⟨_, List.getElem?_eq_getElem hlt⟩
      obtain ⟨g, o, rfl, c0, c1, c2⟩ := HAT.out k u hu
      have k0 := hold BR.out c0
      have k1 := hold BR.out c1
      have k2 := hold BR.out c2
      have DR := Lib.hid (show l.drop k = u :: l.drop (k + 1) by
        rw [List.drop_eq_getElem_cons hlt]
        congr 1
        exact (List.getElem?_eq_some_iff.1 hu).2)
      have UU := Lib.hid (HB.out u (List.mem_of_getElem? hu))
      have SN := Lib.hid (show sumV l = (l.drop (k + 1)).foldl addV (addV s u) by rw [SU.out, DR.out]; rfl)
      obtain ⟨⟨a1, a2⟩, ⟨a3, a4⟩, ⟨a5, a6⟩⟩ := hU
      obtain ⟨⟨b1, b2⟩, ⟨b3, b4⟩, ⟨b5, b6⟩⟩ := UU.out
      have d1 : -9223372036854775808 ≤ s.c + u.c ∧ s.c + u.c ≤ 9223372036854775807 := by omega
      have d2 : -9223372036854775808 ≤ s.m + u.m ∧ s.m + u.m ≤ 9223372036854775807 := by omega
      have d3 : -9223372036854775808 ≤ s.p + u.p ∧ s.p + u.p ≤ 9223372036854775807 := by omega
      have UN := Lib.hid (show (addV s u).Upto (((k + 1 : Nat) : Int) * 4398046511104) by
        unfold V3.Upto addV; simp only; omega)
      obtain ⟨d1, d1'⟩ := d1
      obtain ⟨d2, d2'⟩ := d2
      obtain ⟨d3, d3'⟩ := d3
      have f0 := TB.out.free 0
      have f1 := TB.out.free 1
      have f2 := TB.out.free 2
      clear c0 c1 c2 hu a1 a2 a3 a4 a5 a6 b1 b2 b3 b4 b5 b6
      go_wp2_with fail
      go_roundg (l.length - (k + 1))
      case rel => exact ⟨k + 1, addV s u, by go_num, Nat.le_refl _, hlt, below_al (below_set3 BR.out (Nat.le_succ _) _ _ _) _, (TB.out.set (addV s u)).al _, (RB.out.far (by omega) _ _ _).al _, UN.out, SN⟩
      case measure => have := HM.out; omega
    · obtain rfl : k = l.length := by omega
      have SN := Lib.hid (show sumV l = s by rw [SU.out, List.drop_of_length_le (Nat.le_refl _)]; rfl)
      obtain ⟨r0, r1, r2, rl⟩ := RB.out.cells
      have f0 := RB.out.free 0
      have f1 := RB.out.free 1
      have f2 := RB.out.free 2
      go_wp2_with fail
      exact bodyPost_ret (v := .agg #[.int .i64 s.c, .int .i64 s.m, .int .i64 s.p]) (by simp [results, Tryd.results11, go_sem, r0, r1, r2]) rfl ⟨by rw [SN.out], below_set3 BR.out (Nat.le_refl _) _ _ _⟩
theorem elemVec : Tryd.prog.elem 29 = 23 := by kernel_rfl
theorem sizeVec (w : World) : (sizeOf (Tryd.prog.elem 29)).run Tryd.prog w = .ok 3 w := by kernel_rfl
def maxV : List V3 → V3
  | [] => z3
  | x :: xs => xs.foldl max2V x
theorem vmax_none : Calls Tryd.prog 17 #[.slice none 0 0] w (Made (.agg #[.int .i64 (maxV []).c, .int .i64 (maxV []).m, .int .i64 (maxV []).p]) w) := by
  go_enter Tryd.func17, Tryd.ntmps17
  go_wp2_with fail
  exact bodyPost_ret (v := .agg #[.int .i64 0, .int .i64 0, .int .i64 0]) (by simp [results, Tryd.results17, go_sem]) rfl ⟨rfl, below_al (Below.refl _ _) _⟩
set_option maxHeartbeats 4000000 in
set_option maxRecDepth 20000 in
theorem vmax_any (x : V3) (xs : List V3) (lv : Value) (h : VRow w (x :: xs) lv) (hl : xs.length ≤ 1000) :
    Calls Tryd.prog 17 #[lv] w (Made (.agg #[.int .i64 (maxV (x :: xs)).c, .int .i64 (maxV (x :: xs)).m, .int .i64 (maxV (x :: xs)).p]) w) := by
  obtain ⟨ao, cap, rfl, hcap, hat⟩ := h
  obtain ⟨g, o, rfl, x0, x1, x2⟩ := hat 0 x rfl
  simp only [Nat.zero_mul, Nat.add_zero] at x0 x1 x2
  have SL : ∃ (a1 : Addr) (c1 : Nat), (∀ W, (Instr.slice 29 (.slice (some ⟨g, o, none⟩) (x :: xs).length cap) (some (.int .i64 1)) none none).run Tryd.prog W = .ok (.slice (some a1) xs.length c1) W) ∧ (0 < xs.length → a1 = ⟨g, o + 3, none⟩) := by
    refine ⟨if cap = 1 then ⟨g, o, none⟩ else ⟨g, o + 3, none⟩, cap - 1, fun W => ?_, fun h0 => ?_⟩
    · rw [run_slice_l (P := Tryd.prog) W 29 (some ⟨g, o, none⟩) (x :: xs).length cap (by rw [elemVec]; exact Tryd.underlying29) .i64 1 (by omega) (by simp; omega), sizeVec]
      simp only [Result.andThen, sliced]
      have e : (⟨g, o, none⟩ : Addr).add ((Int.toNat 1) * 3) = ⟨g, o + 3, none⟩ := rfl
      by_cases hc : cap = 1
      · subst hc; simp
      · rw [if_neg hc, if_neg (by simpa using hc), Option.map_some, e]
        simp
    · rw [if_neg]
      simp at hcap; omega
  obtain ⟨a1, c1, SL, ha1⟩ := SL
  have HA1 := Lib.hid ha1
  have HAT := Lib.hid (fun i u (hu : xs[i]? = some u) => hat (i + 1) u (by simpa using hu))
  generalize hn : (x :: xs).length = N at *
  have hN : 1 ≤ N := by rw [← hn]; simp
  have hN2 : N ≤ 1001 := by rw [← hn]; simpa using hl
  clear hat hcap ha1 hn
  have hxl := World.block_lt_of_cell? w _ x0
  have xx0 : ∀ O, (w.alloc O).cell? ⟨g, o, none⟩ = some (.int .i64 x.c) := fun O => hold (below_al (Below.refl _ _) O) x0
  go_enter Tryd.func17, Tryd.ntmps17
  go_wp2_with fail
  have R0 := Lib.hid ((CBlk.new w z3).al (.cells #[.int .i64 x.c, .int .i64 x.m, .int .i64 x.p] 23))
  have T0 := Lib.hid (show CBlk ((w.alloc (.cells #[.int .i64 0, .int .i64 0, .int .i64 0] 23)).alloc (.cells #[.int .i64 x.c, .int .i64 x.m, .int .i64 x.p] 23)) (w.heap.size + 1) x from heap_at (by simp))
  have B0 := Lib.hid (below_al (below_al (Below.refl w.heap.size w) (.cells #[.int .i64 0, .int .i64 0, .int .i64 0] 23)) (.cells #[.int .i64 x.c, .int .i64 x.m, .int .i64 x.p] 23))
  clear SL xx0 x0 x1 x2 hxl
  go_loopg [16] xs.length (fun m iv wr => ∃ (k : Nat) (s : V3), iv = .int .i64 k ∧ xs.length - k ≤ m ∧ k ≤ xs.length ∧ Below w.heap.size w wr ∧ CBlk wr (w.heap.size + 1) s ∧ CBlk wr w.heap.size z3 ∧ Hid (maxV (x :: xs) = (xs.drop k).foldl max2V s))
  case atStart => exact ⟨0, x, rfl, Nat.le_refl _, Nat.zero_le _, B0.out, T0.out, R0.out, Lib.hid rfl⟩
  case round =>
    obtain ⟨k, s, rfl, hm, hk, hb, hT, hR, SU⟩ := hrel
    have HM := Lib.hid hm
    have BR := Lib.hid hb
    have TB := Lib.hid hT
    have RB := Lib.hid hR
    clear hm hb hT hR
    obtain ⟨t0, t1, t2, tl⟩ := TB.out.cells
    by_cases hlt : k < xs.length
    · obtain ⟨u, hu⟩ : ∃ u, xs[k]? = some u := ⟨_, List.getElem?_eq_getElem hlt⟩
      obtain ⟨g', o', e', c0, c1, c2⟩ := HAT.out k u hu
      simp only [Option.some.injEq, Addr.mk.injEq, and_true] at e'
      obtain ⟨rfl, rfl⟩ := e'
      obtain rfl := HA1.out (by omega)
      rw [show o + (k + 1) * 3 = o + 3 + k * 3 by omega] at c0 c1 c2
      have k0 := hold BR.out c0
      have k1 := hold BR.out c1
      have k2 := hold BR.out c2
      have DR := Lib.hid (show xs.drop k = u :: xs.drop (k + 1) by
        rw [List.drop_eq_getElem_cons hlt]
        congr 1
        exact (List.getElem?_eq_some_iff.1 hu).2)
      have SN := Lib.hid (show maxV (x :: xs) = (xs.drop (k + 1)).foldl max2V (max2V s u) by rw [SU.out, DR.out]; rfl)
      have f0 := TB.out.free 0
      have f1 := TB.out.free 1
      have f2 := TB.out.free 2
      obtain ⟨M, hM⟩ : ∃ M, M = max2V s u := ⟨_, rfl⟩
      have m0 : (if s.c < u.c then u.c else s.c) = M.c := by rw [hM]; unfold max2V; simp only; omega
      have m1 : (if s.m < u.m then u.m else s.m) = M.m := by rw [hM]; unfold max2V; simp only; omega
      have m2 : (if s.p < u.p then u.p else s.p) = M.p := by rw [hM]; unfold max2V; simp only; omega
      rw [← hM] at SN
      clear c0 c1 c2 hu hM
      go_wp2_with fail
      go_roundg (xs.length - (k + 1))
      case rel => exact ⟨k + 1, M, by go_num, Nat.le_refl _, hlt, below_al (below_set3 BR.out (Nat.le_succ _) _ _ _) _, (TB.out.set M).al _, (RB.out.far (by omega) _ _ _).al _, SN⟩
      case measure => have := HM.out; omega
    · obtain rfl : k = xs.length := by omega
      have SN := Lib.hid (show maxV (x :: xs) = s by rw [SU.out, List.drop_of_length_le (Nat.le_refl _)]; rfl)
      obtain ⟨r0, r1, r2, rl⟩ := RB.out.cells
      have f0 := RB.out.free 0
      have f1 := RB.out.free 1
      have f2 := RB.out.free 2
      go_wp2_with fail
      exact bodyPost_ret (v := .agg #[.int .i64 s.c, .int .i64 s.m, .int .i64 s.p]) (by simp [results, Tryd.results17, go_sem, r0, r1, r2]) rfl ⟨by rw [SN.out], below_set3 BR.out (Nat.le_refl _) _ _ _⟩
end
end Go.Proofs.YtjoakpgcflhfnaaDoor
