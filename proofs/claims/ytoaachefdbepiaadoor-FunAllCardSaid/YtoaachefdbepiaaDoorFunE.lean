/- Package fun: the least and the greatest of numbers; the law's example. -/
import Derived.Test.YtoaachefdbepiaaDoorFunD
import Derived.Test.YtoaachefdbepiaaDoorOwn
namespace Go.Proofs.YtoaachefdbepiaaDoor
open Go.RowKit
set_option linter.unusedVariables false
set_option linter.unusedSimpArgs false

def IsMin (m : Int) (xs : List Int) : Prop := m ∈ xs ∧ ∀ y ∈ xs, m ≤ y
def IsMax (m : Int) (xs : List Int) : Prop := m ∈ xs ∧ ∀ y ∈ xs, y ≤ m
section
variable (w : World)
set_option maxHeartbeats 2000000 in
set_option maxRecDepth 20000 in
theorem fints (D : Nat) (l : List VL) (lv : Value) (h : RowRd w D l lv) (hn : l.length ≤ 100000) :
    Calls Tryd.prog 45 #[lv] w fun e w' => ∃ v, e = .returned v ∧ IntsRd w' v (l.map VL.num) ∧ Below w.heap.size w w' := by
  have H := Lib.hid h
  have hl := h.len
  unfold maxLen at hl
  obtain ⟨ao, cap, rfl⟩ := h.shape
  obtain ⟨i0, hi0, hz0, hz1, hz2⟩ := info_parts info_int
  clear h
  go_enter Tryd.func45, Tryd.ntmps45
  go_wp2_with fail
  go_loopg [3, 8] l.length (fun m rv iv wr => ∃ i : Nat, iv = .int .i64 i ∧ l.length - i ≤ m ∧ i ≤ l.length ∧ Below w.heap.size w wr ∧ wr.ownsRow w.heap.size 3 1 rv i (intCells ((l.map VL.num).take i)))
  case atStart => exact ⟨0, rfl, Nat.le_refl _, Nat.zero_le _, Below.refl _ _, own_none _ _ _ _⟩
  case round =>
    obtain ⟨i, rfl, hm, hi, hb, ho⟩ := hrel
    obtain ⟨rao, rl, rcap, rfl⟩ := own_slice ho
    have HM := Lib.hid hm
    have BR := Lib.hid hb
    have O := Lib.hid ho
    clear hm hb ho
    by_cases hil : i < l.length
    · obtain ⟨u, hu⟩ : ∃ u, l[i]? = some u := ⟨_, List.getElem?_eq_getElem hil⟩
      obtain ⟨ao2, cap2, e2, hat⟩ := (H.out.below BR.out).at
      simp only [Value.slice.injEq, true_and] at e2
      obtain ⟨rfl, rfl⟩ := e2
      obtain ⟨g, o, lu, rfl, -, c0, c1, c2, c3, hr⟩ := hat i u hu
      obtain ⟨lao, lcap, rfl⟩ := hr.shape
      have TS := Lib.hid (show intCells ((l.map VL.num).take (i + 1)) = intCells ((l.map VL.num).take i) ++ [.int .i64 u.num] by
        rw [List.take_add_one, List.getElem?_map, hu]; simp [intCells])
      clear hat hu hr
      have NW := Lib.hid (news_new (wr.alloc (.cells #[.int .i64 u.kind, .int .i64 u.num, .string u.text, .slice lao u.kids.length lcap] 26)) #[.int .i64 u.num] 3)
      rw [show (wr.alloc (.cells #[.int .i64 u.kind, .int .i64 u.num, .string u.text, .slice lao u.kids.length lcap] 26)).heap.size = wr.heap.size + 1 by simp] at NW
      go_wp2_with (at_builtin; refine wpList_append_own _ rfl _ _ 62 rfl w.heap.size 3 i0 _ 1 8 Tryd.underlying62 hi0 hz0 hz1 hz2 rfl (by decide) (.slice rao rl rcap) i (intCells ((l.map VL.num).take i)) rfl ((O.out.alloc _).alloc _) ⟨wr.heap.size + 1, 0, none⟩ 1 1 [.int .i64 u.num] rfl rfl ?a1 ?b1 ?c1 ?d1 ?e1 ?_)
      try case a1 => exact NW.out
      case b1 => simp [Value.oneCell']
      case c1 => unfold maxLen; omega
      case d1 => omega
      case e1 => have := BR.out.size; simp; omega
      intro v' w6 hown hgrow _
      have BZ := Lib.hid (below_grown (below_al BR.out _) hgrow (fun k hk => (World.ownsRow.lt O.out k hk).1))
      rw [← TS.out] at hown
      have OZ := Lib.hid hown
      clear hown hgrow
      go_wp2_with fail
      go_roundg (l.length - (i + 1))
      case rel => exact ⟨i + 1, rfl, Nat.le_refl _, hil, BZ.out, OZ.out⟩
      case measure => have := HM.out; omega
    · have e : i = l.length := by omega
      have IR := Lib.hid (show IntsRd wr (.slice rao rl rcap) (l.map VL.num) from ints_of_own (B := w.heap.size) (e := 3) (by
        have h := O.out
        rw [e, List.take_of_length_le (by simp)] at h
        rw [List.length_map]; exact h))
      clear e
      go_wp2_with fail
      go_ret
      exact ⟨_, rfl, IR.out, BR.out⟩
theorem isMin_succ {m y : Int} {xs : List Int} (h : IsMin m xs) : (y < m → IsMin y (xs ++ [y])) ∧ (¬ y < m → IsMin m (xs ++ [y])) := by
  refine ⟨fun hy => ⟨by simp, fun z hz => ?_⟩, fun hy => ⟨by simp [h.1], fun z hz => ?_⟩⟩
  · rcases List.mem_append.1 hz with hz | hz
    · exact Int.le_trans (Int.le_of_lt hy) (h.2 z hz)
    · simp at hz; omega
  · rcases List.mem_append.1 hz with hz | hz
    · exact h.2 z hz
    · simp at hz; omega
theorem isMax_succ {m y : Int} {xs : List Int} (h : IsMax m xs) : (m < y → IsMax y (xs ++ [y])) ∧ (¬ m < y → IsMax m (xs ++ [y])) := by
  refine ⟨fun hy => ⟨by simp, fun z hz => ?_⟩, fun hy => ⟨by simp [h.1], fun z hz => ?_⟩⟩
  · rcases List.mem_append.1 hz with hz | hz
    · exact Int.le_trans (h.2 z hz) (Int.le_of_lt hy)
    · simp at hz; omega
  · rcases List.mem_append.1 hz with hz | hz
    · exact h.2 z hz
    · simp at hz; omega
set_option maxHeartbeats 2000000 in
set_option maxRecDepth 20000 in
theorem fmin (xs : List Int) (v : Value) (h : IntsRd w v xs) (h0 : 0 < xs.length) (hn : xs.length ≤ 100000) :
    Calls Tryd.prog 44 #[v] w fun e w' => ∃ m, e = .returned (.int .i64 m) ∧ IsMin m xs ∧ w = w' := by
  obtain ⟨ao, cap, rfl, hc⟩ := h
  have HC := Lib.hid hc
  obtain ⟨x0, hx0⟩ : ∃ x, xs[0]? = some x := ⟨_, List.getElem?_eq_getElem h0⟩
  obtain ⟨g, o, rfl, k0⟩ := hc 0 x0 hx0
  rw [Nat.add_zero] at k0
  have X0 := Lib.hid (show IsMin x0 (xs.take 1) by
    rw [show (1 : Nat) = 0 + 1 from rfl, List.take_add_one, hx0]; exact ⟨by simp, fun y hy => by simp at hy; omega⟩)
  clear hc hx0
  have hlen : ¬ (xs.length : Int) < 1 := by omega
  go_enter Tryd.func44, Tryd.ntmps44
  go_wp2_with fail
  clear k0
  go_loopg [3, 4] xs.length (fun m mv iv wr => ∃ (i : Nat) (x : Int), iv = .int .i64 i ∧ mv = .int .i64 x ∧ xs.length - i ≤ m ∧ i ≤ xs.length ∧ Hid (IsMin x (xs.take i)) ∧ w = wr)
  case atStart => exact ⟨1, x0, rfl, rfl, by omega, h0, X0, rfl⟩
  case round =>
    obtain ⟨i, x, rfl, rfl, hm, hi, IM, rfl⟩ := hrel
    have HM := Lib.hid hm
    clear hm
    by_cases hil : i < xs.length
    · obtain ⟨y, hy⟩ : ∃ y, xs[i]? = some y := ⟨_, List.getElem?_eq_getElem hil⟩
      obtain ⟨g', o', e', ky⟩ := HC.out i y hy
      simp only [Option.some.injEq, Addr.mk.injEq, and_true] at e'
      obtain ⟨rfl, rfl⟩ := e'
      have TY := Lib.hid (show xs.take (i + 1) = xs.take i ++ [y] by rw [List.take_add_one, hy]; rfl)
      clear hy
      by_cases hlt : y < x
      · have AF := Lib.hid (show IsMin y (xs.take (i + 1)) by rw [TY.out]; exact (isMin_succ IM.out).1 hlt)
        go_wp2_with fail
        go_roundg (xs.length - (i + 1))
        case rel => exact ⟨i + 1, y, rfl, rfl, Nat.le_refl _, hil, AF, rfl⟩
        case measure => have := HM.out; omega
      · have AF := Lib.hid (show IsMin x (xs.take (i + 1)) by rw [TY.out]; exact (isMin_succ IM.out).2 hlt)
        go_wp2_with fail
        go_roundg (xs.length - (i + 1))
        case rel => exact ⟨i + 1, x, rfl, rfl, Nat.le_refl _, hil, AF, rfl⟩
        case measure => have := HM.out; omega
    · have AF := Lib.hid (show IsMin x xs by have h := IM.out; rwa [List.take_of_length_le (by omega)] at h)
      go_wp2_with fail
      go_ret
      exact ⟨x, rfl, AF.out, rfl⟩
set_option maxHeartbeats 2000000 in
set_option maxRecDepth 20000 in
theorem fmax (xs : List Int) (v : Value) (h : IntsRd w v xs) (h0 : 0 < xs.length) (hn : xs.length ≤ 100000) :
    Calls Tryd.prog 46 #[v] w fun e w' => ∃ m, e = .returned (.int .i64 m) ∧ IsMax m xs ∧ w = w' := by
  obtain ⟨ao, cap, rfl, hc⟩ := h
  have HC := Lib.hid hc
  obtain ⟨x0, hx0⟩ : ∃ x, xs[0]? = some x := ⟨_, List.getElem?_eq_getElem h0⟩
  obtain ⟨g, o, rfl, k0⟩ := hc 0 x0 hx0
  rw [Nat.add_zero] at k0
  have X0 := Lib.hid (show IsMax x0 (xs.take 1) by
    rw [show (1 : Nat) = 0 + 1 from rfl, List.take_add_one, hx0]; exact ⟨by simp, fun y hy => by simp at hy; omega⟩)
  clear hc hx0
  have hlen : ¬ (xs.length : Int) < 1 := by omega
  go_enter Tryd.func46, Tryd.ntmps46
  go_wp2_with fail
  clear k0
  go_loopg [3, 4] xs.length (fun m mv iv wr => ∃ (i : Nat) (x : Int), iv = .int .i64 i ∧ mv = .int .i64 x ∧ xs.length - i ≤ m ∧ i ≤ xs.length ∧ Hid (IsMax x (xs.take i)) ∧ w = wr)
  case atStart => exact ⟨1, x0, rfl, rfl, by omega, h0, X0, rfl⟩
  case round =>
    obtain ⟨i, x, rfl, rfl, hm, hi, IM, rfl⟩ := hrel
    have HM := Lib.hid hm
    clear hm
    by_cases hil : i < xs.length
    · obtain ⟨y, hy⟩ : ∃ y, xs[i]? = some y := ⟨_, List.getElem?_eq_getElem hil⟩
      obtain ⟨g', o', e', ky⟩ := HC.out i y hy
      simp only [Option.some.injEq, Addr.mk.injEq, and_true] at e'
      obtain ⟨rfl, rfl⟩ := e'
      have TY := Lib.hid (show xs.take (i + 1) = xs.take i ++ [y] by rw [List.take_add_one, hy]; rfl)
      clear hy
      by_cases hlt : x < y
      · have AF := Lib.hid (show IsMax y (xs.take (i + 1)) by rw [TY.out]; exact (isMax_succ IM.out).1 hlt)
        go_wp2_with fail
        go_roundg (xs.length - (i + 1))
        case rel => exact ⟨i + 1, y, rfl, rfl, Nat.le_refl _, hil, AF, rfl⟩
        case measure => have := HM.out; omega
      · have AF := Lib.hid (show IsMax x (xs.take (i + 1)) by rw [TY.out]; exact (isMax_succ IM.out).2 hlt)
        go_wp2_with fail
        go_roundg (xs.length - (i + 1))
        case rel => exact ⟨i + 1, x, rfl, rfl, Nat.le_refl _, hil, AF, rfl⟩
        case measure => have := HM.out; omega
    · have AF := Lib.hid (show IsMax x xs by have h := IM.out; rwa [List.take_of_length_le (by omega)] at h)
      go_wp2_with fail
      go_ret
      exact ⟨x, rfl, AF.out, rfl⟩
theorem finteger (n : Int) : Calls Tryd.prog 43 #[.int .i64 n] w (Made (.agg #[.int .i64 1, .int .i64 n, .string ⟨#[]⟩, .slice none 0 0]) w) := by
  go_enter Tryd.func43, Tryd.ntmps43
  go_wp2_with fail
  exact bodyPost_ret (v := .agg #[.int .i64 1, .int .i64 n, .string ⟨#[]⟩, .slice none 0 0]) (by simp [results, Tryd.results43, go_sem]) rfl ⟨rfl, below_al (Below.refl _ _) _⟩
set_option maxHeartbeats 2000000 in
set_option maxRecDepth 20000 in
theorem fleast (D : Nat) (l : List VL) (lv : Value) (h : RowRd w D l lv) (h0 : 0 < l.length) (hn : l.length ≤ 100000) :
    Calls Tryd.prog 30 #[lv] w fun e w' => ∃ m, IsMin m (l.map VL.num) ∧ IsTold 1 m ⟨#[]⟩ 0 w e w' := by
  have H := Lib.hid h
  have H0 := Lib.hid h0
  obtain ⟨ao, cap, rfl⟩ := h.shape
  clear h h0
  go_enter Tryd.func30, Tryd.ntmps30
  go_wp2_with fail
  with_reducible refine (fints _ D l _ (H.out.below (below_al (Below.refl _ _) _)) hn).mono ?_
  rintro e w1 ⟨v, rfl, hv, hb1⟩
  have R := Lib.hid ((NBlk.new w 0 0 ⟨#[]⟩).below hb1)
  have B1 := Lib.hid (below_tr (below_al (Below.refl w.heap.size w) _) hb1)
  have FM := Lib.hid (fmin w1 _ v hv (by rw [List.length_map]; exact H0.out) (by rw [List.length_map]; exact hn))
  obtain ⟨vao, vcap, rfl⟩ := hv.shape
  rw [List.length_map] at FM
  clear hb1 hv
  go_wp2_with fail
  with_reducible refine FM.out.mono ?_
  rintro e w2 ⟨m, rfl, hm, rfl⟩
  have HM := Lib.hid hm
  clear hm
  go_wp2_with fail
  with_reducible refine (finteger _ m).mono ?_
  rintro e w2 ⟨rfl, hb2⟩
  obtain ⟨⟨r0, r1, r2, r3, rl⟩, f0, f1, f2, f3⟩ := (R.out.below hb2).full
  have B2 := Lib.hid (below_tr B1.out hb2)
  clear hb2
  go_wp2_with fail
  exact bodyPost_ret (v := .tuple #[.agg #[.int .i64 1, .int .i64 m, .string ⟨#[]⟩, .slice none 0 0], .int .i64 0]) (by simp [results, Tryd.results30, go_sem, r0, r1, r2, r3]) rfl ⟨m, HM.out, rfl, below_set4 B2.out (Nat.le_refl _) _ _ _ _⟩
set_option maxHeartbeats 2000000 in
set_option maxRecDepth 20000 in
theorem fgreatest (D : Nat) (l : List VL) (lv : Value) (h : RowRd w D l lv) (h0 : 0 < l.length) (hn : l.length ≤ 100000) :
    Calls Tryd.prog 31 #[lv] w fun e w' => ∃ m, IsMax m (l.map VL.num) ∧ IsTold 1 m ⟨#[]⟩ 0 w e w' := by
  have H := Lib.hid h
  have H0 := Lib.hid h0
  obtain ⟨ao, cap, rfl⟩ := h.shape
  clear h h0
  go_enter Tryd.func31, Tryd.ntmps31
  go_wp2_with fail
  with_reducible refine (fints _ D l _ (H.out.below (below_al (Below.refl _ _) _)) hn).mono ?_
  rintro e w1 ⟨v, rfl, hv, hb1⟩
  have R := Lib.hid ((NBlk.new w 0 0 ⟨#[]⟩).below hb1)
  have B1 := Lib.hid (below_tr (below_al (Below.refl w.heap.size w) _) hb1)
  have FM := Lib.hid (fmax w1 _ v hv (by rw [List.length_map]; exact H0.out) (by rw [List.length_map]; exact hn))
  obtain ⟨vao, vcap, rfl⟩ := hv.shape
  rw [List.length_map] at FM
  clear hb1 hv
  go_wp2_with fail
  with_reducible refine FM.out.mono ?_
  rintro e w2 ⟨m, rfl, hm, rfl⟩
  have HM := Lib.hid hm
  clear hm
  go_wp2_with fail
  with_reducible refine (finteger _ m).mono ?_
  rintro e w2 ⟨rfl, hb2⟩
  obtain ⟨⟨r0, r1, r2, r3, rl⟩, f0, f1, f2, f3⟩ := (R.out.below hb2).full
  have B2 := Lib.hid (below_tr B1.out hb2)
  clear hb2
  go_wp2_with fail
  exact bodyPost_ret (v := .tuple #[.agg #[.int .i64 1, .int .i64 m, .string ⟨#[]⟩, .slice none 0 0], .int .i64 0]) (by simp [results, Tryd.results31, go_sem, r0, r1, r2, r3]) rfl ⟨m, HM.out, rfl, below_set4 B2.out (Nat.le_refl _) _ _ _ _⟩
end
end Go.Proofs.YtoaachefdbepiaaDoor
