/- Package vec: amounts: what they are, how they are read; sums, differences, what is at most what, the greatest. -/
import Derived.Test.YtekaefeogbmmmaaBase
namespace Go.Proofs.Ytekaefeogbmmmaa
open Go.RowKit
set_option linter.unusedVariables false
set_option linter.unusedSimpArgs false

/-- An amount. -/
structure V3 where
  c : Int
  m : Int
  p : Int
def V3.val (v : V3) : Value := .agg #[.int .i64 v.c, .int .i64 v.m, .int .i64 v.p]
def V3.cells (v : V3) : List Value := [.int .i64 v.c, .int .i64 v.m, .int .i64 v.p]
def z3 : V3 := ⟨0, 0, 0⟩
/-- Each number at most b, above or below nought. -/
def V3.Upto (b : Int) (v : V3) : Prop := (-b ≤ v.c ∧ v.c ≤ b) ∧ (-b ≤ v.m ∧ v.m ≤ b) ∧ (-b ≤ v.p ∧ v.p ≤ b)
def V3.I (v : V3) : Prop := (-9223372036854775808 ≤ v.c ∧ v.c ≤ 9223372036854775807) ∧ (-9223372036854775808 ≤ v.m ∧ v.m ≤ 9223372036854775807) ∧ (-9223372036854775808 ≤ v.p ∧ v.p ≤ 9223372036854775807)
/-- Row l as the slice value lv reads. -/
def VRow (w : World) (l : List V3) (lv : Value) : Prop := ∃ ao cap, lv = .slice ao l.length cap ∧ l.length ≤ cap ∧ ∀ (i : Nat) (u : V3), l[i]? = some u → ∃ g o, ao = some ⟨g, o, none⟩ ∧
  w.cell? ⟨g, o + i * 3, none⟩ = some (.int .i64 u.c) ∧ w.cell? ⟨g, o + i * 3 + 1, none⟩ = some (.int .i64 u.m) ∧ w.cell? ⟨g, o + i * 3 + 2, none⟩ = some (.int .i64 u.p)
theorem VRow.below {w w' : World} {l : List V3} {lv : Value} (h : VRow w l lv) (hb : Below w.heap.size w w') : VRow w' l lv := by
  obtain ⟨ao, cap, e, hcap, hc⟩ := h
  refine ⟨ao, cap, e, hcap, fun i u hu => ?_⟩
  obtain ⟨g, o, e2, c0, c1, c2⟩ := hc i u hu
  exact ⟨g, o, e2, hold hb c0, hold hb c1, hold hb c2⟩
theorem VRow.nil (w : World) : VRow w [] (.slice none 0 0) := ⟨none, 0, rfl, Nat.le_refl _, fun i u hu => by simp at hu⟩
/-- A block of one amount. -/
def CBlk (w : World) (g : Nat) (v : V3) : Prop := w.heap[g]? = some (.cells #[.int .i64 v.c, .int .i64 v.m, .int .i64 v.p] 24 (0, 0))
theorem CBlk.lt {w : World} {g : Nat} {v : V3} (h : CBlk w g v) : g < w.heap.size := by
  rcases Nat.lt_or_ge g w.heap.size with hlt | hge
  · exact hlt
  · unfold CBlk at h; rw [Array.getElem?_eq_none hge] at h; cases h
theorem CBlk.cells {w : World} {g : Nat} {v : V3} (h : CBlk w g v) :
    w.cell? ⟨g, 0, none⟩ = some (.int .i64 v.c) ∧ w.cell? ⟨g, 1, none⟩ = some (.int .i64 v.m) ∧ w.cell? ⟨g, 2, none⟩ = some (.int .i64 v.p) ∧ g < w.heap.size :=
  ⟨cell_of_row w g 0 _ _ _ h, cell_of_row w g 1 _ _ _ h, cell_of_row w g 2 _ _ _ h, h.lt⟩
theorem CBlk.free {w : World} {g : Nat} {v : V3} (h : CBlk w g v) (o : Nat) : w.frozen? ⟨g, o, none⟩ = false := by
  unfold CBlk at h
  simp [World.frozen?, h]
theorem CBlk.below {w w' : World} {g : Nat} {v : V3} (h : CBlk w g v) (hb : Below w.heap.size w w') : CBlk w' g v := (hb.block g h.lt).trans h
theorem CBlk.new (w : World) (v : V3) : CBlk (w.alloc (.cells #[.int .i64 v.c, .int .i64 v.m, .int .i64 v.p] 24)) w.heap.size v := heap_alloc_new w _
theorem CBlk.al {w : World} {g : Nat} {v : V3} (h : CBlk w g v) (O : Obj) : CBlk (w.alloc O) g v := h.below (below_al (Below.refl _ _) _)
theorem CBlk.set {w : World} {g : Nat} {v : V3} (h : CBlk w g v) (u : V3) : CBlk (((w.setCell ⟨g, 0, none⟩ (.int .i64 u.c)).setCell ⟨g, 1, none⟩ (.int .i64 u.m)).setCell ⟨g, 2, none⟩ (.int .i64 u.p)) g u := by
  have h0 := heap_setCell_same w g 0 _ _ (.int .i64 u.c) h
  have h1 := heap_setCell_same _ g 1 _ _ (.int .i64 u.m) h0
  exact heap_setCell_same _ g 2 _ _ (.int .i64 u.p) h1
theorem CBlk.far {w : World} {g f : Nat} {v : V3} (h : CBlk w g v) (hf : g ≠ f) (a b c : Value) : CBlk (((w.setCell ⟨f, 0, none⟩ a).setCell ⟨f, 1, none⟩ b).setCell ⟨f, 2, none⟩ c) g v := by
  unfold CBlk at *
  rw [Below.heap_setCell _ _ _ _ hf, Below.heap_setCell _ _ _ _ hf, Below.heap_setCell _ _ _ _ hf]; exact h
theorem below_set3 {B : Nat} {w W : World} (h : Below B w W) {g : Nat} (hg : B ≤ g) (v0 v1 v2 : Value) : Below B w (((W.setCell ⟨g, 0, none⟩ v0).setCell ⟨g, 1, none⟩ v1).setCell ⟨g, 2, none⟩ v2) :=
  ((h.setCell hg _).setCell hg _).setCell hg _
def addV (a b : V3) : V3 := ⟨a.c + b.c, a.m + b.m, a.p + b.p⟩
def subV (a b : V3) : V3 := ⟨a.c - b.c, a.m - b.m, a.p - b.p⟩
def leV (a b : V3) : Bool := decide (a.c ≤ b.c) && decide (a.m ≤ b.m) && decide (a.p ≤ b.p)
def sumV (l : List V3) : V3 := l.foldl addV z3
def max2V (a b : V3) : V3 := ⟨max a.c b.c, max a.m b.m, max a.p b.p⟩
def mostV : V3 := ⟨1099511627776, 1099511627776, 1099511627776⟩
def mayV (v : V3) : Bool := leV z3 v && leV v mostV
section
variable (w : World)
theorem vle_any (a b : V3) : Calls Try.prog 30 #[.agg #[.int .i64 a.c, .int .i64 a.m, .int .i64 a.p], .agg #[.int .i64 b.c, .int .i64 b.m, .int .i64 b.p]] w (Made (.bool (leV a b)) w) := by
  have E : Hid (leV a b = (decide (a.c ≤ b.c) && decide (a.m ≤ b.m) && decide (a.p ≤ b.p))) := rfl
  by_cases h1 : a.c ≤ b.c
  · by_cases h2 : a.m ≤ b.m
    · by_cases h3 : a.p ≤ b.p
      all_goals
        go_enter Try.func30, Try.ntmps30
        go_wp2_with fail
        go_ret
        exact ⟨by rw [E.out]; simp [h1, h2, h3], below_al (below_al (Below.refl _ _) _) _⟩
    · go_enter Try.func30, Try.ntmps30
      go_wp2_with fail
      go_ret
      exact ⟨by rw [E.out]; simp; omega, below_al (below_al (Below.refl _ _) _) _⟩
  · go_enter Try.func30, Try.ntmps30
    go_wp2_with fail
    go_ret
    exact ⟨by rw [E.out]; simp; omega, below_al (below_al (Below.refl _ _) _) _⟩
theorem vsub_any (a b : V3) (h : (subV a b).I) : Calls Try.prog 33 #[.agg #[.int .i64 a.c, .int .i64 a.m, .int .i64 a.p], .agg #[.int .i64 b.c, .int .i64 b.m, .int .i64 b.p]] w (Made (.agg #[.int .i64 (subV a b).c, .int .i64 (subV a b).m, .int .i64 (subV a b).p]) w) := by
  obtain ⟨⟨h1, h2⟩, ⟨h3, h4⟩, ⟨h5, h6⟩⟩ := h
  unfold subV at *
  simp only at h1 h2 h3 h4 h5 h6 ⊢
  go_enter Try.func33, Try.ntmps33
  go_wp2_with fail
  exact bodyPost_ret (v := .agg #[.int .i64 (a.c - b.c), .int .i64 (a.m - b.m), .int .i64 (a.p - b.p)]) (by simp [results, Try.results33, go_sem]) rfl ⟨rfl, below_al (below_al (below_al (Below.refl _ _) _) _) _⟩
theorem vmost_any : Calls Try.prog 43 #[] w (Made mostV.val w) := by
  go_enter Try.func43, Try.ntmps43
  go_wp2_with fail
  exact bodyPost_ret (v := mostV.val) (by simp [results, Try.results43, go_sem, mostV, V3.val]) rfl ⟨rfl, below_al (Below.refl _ _) _⟩
set_option maxHeartbeats 4000000 in
set_option maxRecDepth 20000 in
theorem vadd_any (l : List V3) (lv : Value) (h : VRow w l lv) (hl : l.length ≤ 1000) (hb : ∀ v ∈ l, v.Upto 4611686018427387) :
    Calls Try.prog 27 #[lv] w (Made (.agg #[.int .i64 (sumV l).c, .int .i64 (sumV l).m, .int .i64 (sumV l).p]) w) := by
  obtain ⟨ao, cap, rfl, hcap, hat⟩ := h
  have HAT := Lib.hid hat
  have HB := Lib.hid hb
  clear hat hb hcap
  go_enter Try.func27, Try.ntmps27
  go_wp2_with fail
  have R0 := Lib.hid ((CBlk.new w z3).al (.cells #[.int .i64 0, .int .i64 0, .int .i64 0] 24))
  have T0 := Lib.hid (show CBlk ((w.alloc (.cells #[.int .i64 0, .int .i64 0, .int .i64 0] 24)).alloc (.cells #[.int .i64 0, .int .i64 0, .int .i64 0] 24)) (w.heap.size + 1) z3 from heap_at (by simp))
  have B0 := Lib.hid (below_al (below_al (Below.refl w.heap.size w) (.cells #[.int .i64 0, .int .i64 0, .int .i64 0] 24)) (.cells #[.int .i64 0, .int .i64 0, .int .i64 0] 24))
  go_loopg [8] l.length (fun m iv wr => ∃ (k : Nat) (s : V3), iv = .int .i64 k ∧ l.length - k ≤ m ∧ k ≤ l.length ∧ Below w.heap.size w wr ∧ CBlk wr (w.heap.size + 1) s ∧ CBlk wr w.heap.size z3 ∧ s.Upto ((k : Int) * 4611686018427387) ∧ Hid (sumV l = (l.drop k).foldl addV s))
  case atStart => exact ⟨0, z3, rfl, Nat.le_refl _, Nat.zero_le _, B0.out, T0.out, R0.out, by simp [V3.Upto, z3], Lib.hid rfl⟩
  case round =>
    obtain ⟨k, s, rfl, hm, hk, hb, hT, hR, hU, SU⟩ := hrel
    have HM := Lib.hid hm
    have BR := Lib.hid hb
    have TB := Lib.hid hT
    have RB := Lib.hid hR
    have UB := Lib.hid hU
    clear hm hb hT hR
    obtain ⟨t0, t1, t2, tl⟩ := TB.out.cells
    by_cases hlt : k < l.length
    · obtain ⟨u, hu⟩ : ∃ u, l[k]? = some u := ⟨_, List.getElem?_eq_getElem hlt⟩
      obtain ⟨g, o, rfl, c0, c1, c2⟩ := HAT.out k u hu
      have k0 := hold BR.out c0
      have k1 := hold BR.out c1
      have k2 := hold BR.out c2
      have DR := Lib.hid (show l.drop k = u :: l.drop (k + 1) by
        rw [List.drop_eq_getElem_cons hlt]
        congr 1
        exact (List.getElem?_eq_some_iff.1 hu).2)
      have UU := Lib.hid (HB.out u (List.mem_of_getElem? hu))
      have SN := Lib.hid (show sumV l = (l.drop (k + 1)).foldl addV (addV s u) by rw [SU.out, DR.out]; rfl)
      obtain ⟨⟨a1, a2⟩, ⟨a3, a4⟩, ⟨a5, a6⟩⟩ := hU
      obtain ⟨⟨b1, b2⟩, ⟨b3, b4⟩, ⟨b5, b6⟩⟩ := UU.out
      have d1 : -9223372036854775808 ≤ s.c + u.c ∧ s.c + u.c ≤ 9223372036854775807 := by omega
      have d2 : -9223372036854775808 ≤ s.m + u.m ∧ s.m + u.m ≤ 9223372036854775807 := by omega
      have d3 : -9223372036854775808 ≤ s.p + u.p ∧ s.p + u.p ≤ 9223372036854775807 := by omega
      have UN := Lib.hid (show (addV s u).Upto (((k + 1 : Nat) : Int) * 4611686018427387) by
        unfold V3.Upto addV; simp only; omega)
      obtain ⟨d1, d1'⟩ := d1
      obtain ⟨d2, d2'⟩ := d2
      obtain ⟨d3, d3'⟩ := d3
      have f0 := TB.out.free 0
      have f1 := TB.out.free 1
      have f2 := TB.out.free 2
      clear c0 c1 c2 hu a1 a2 a3 a4 a5 a6 b1 b2 b3 b4 b5 b6
      go_wp2_with fail
      go_roundg (l.length - (k + 1))
      case rel => exact ⟨k + 1, addV s u, by go_num, Nat.le_refl _, hlt, below_al (below_set3 BR.out (Nat.le_succ _) _ _ _) _, (TB.out.set (addV s u)).al _, (RB.out.far (by omega) _ _ _).al _, UN.out, SN⟩
      case measure => have := HM.out; omega
    · obtain rfl : k = l.length := by omega
      have SN := Lib.hid (show sumV l = s by rw [SU.out, List.drop_of_length_le (Nat.le_refl _)]; rfl)
      obtain ⟨r0, r1, r2, rl⟩ := RB.out.cells
      have f0 := RB.out.free 0
      have f1 := RB.out.free 1
      have f2 := RB.out.free 2
      go_wp2_with fail
      exact bodyPost_ret (v := .agg #[.int .i64 s.c, .int .i64 s.m, .int .i64 s.p]) (by simp [results, Try.results27, go_sem, r0, r1, r2]) rfl ⟨by rw [SN.out], below_set3 BR.out (Nat.le_refl _) _ _ _⟩
def maxV : List V3 → V3
  | [] => z3
  | x :: xs => xs.foldl max2V x
end
end Go.Proofs.Ytekaefeogbmmmaa
