/- Package admit: a tree of its own, and the way into it. -/
import Derived.Test.YtekaefeogbmmmaaAdD
import Derived.Test.YtekaefeogbmmmaaTrU
import Derived.Test.YtekaefeogbmmmaaMapK
import Derived.Test.YtekaefeogbmmmaaNatC
import Derived.Test.YtekaefeogbmmmaaVecC
import Derived.Lib.SlicesS
namespace Go.Proofs.Ytekaefeogbmmmaa
open Go.RowKit
set_option linter.unusedVariables false
set_option linter.unusedSimpArgs false
section
variable (w : World)
set_option maxHeartbeats 4000000 in
set_option maxRecDepth 20000 in
theorem pcloneI (l : List I12) (lv : Value) (h : IRow w l lv) (hl : l.length ≤ 1000) : Calls Try.prog 39 #[lv] w (MadeI l w) := by
  obtain ⟨i0, hi0, hz0, hz1, hz2⟩ := info_partsT info_item
  obtain ⟨ao, cap, rfl⟩ := h.shape
  cases ao with
  | none =>
    have hx : l = [] := List.eq_nil_of_length_eq_zero (h.src.1 rfl)
    subst hx
    have hnil := fun W => Lib.run_eql_slice_nil (P := Try.prog) W 22 40 none 0 cap 0 0 Try.underlying22
    clear h
    go_enter Try.func39, Try.ntmps39
    go_wp2_with fail
    go_ret
    exact ⟨_, rfl, Below.refl _ _, IOwn_nil _ _⟩
  | some ad =>
    have BE := Lib.hid (below_al (Below.refl w.heap.size w) (.cells #[] 40))
    have E0 := Lib.hid (show (w.alloc (.cells #[] 40)).ownsRow w.heap.size 40 12 (.slice (some ⟨w.heap.size, 0, none⟩) 0 0) 0 [] from ⟨by simp, .inr ⟨w.heap.size, 0, #[], rfl, Nat.le_refl _, heap_alloc_new w _, Nat.le_refl _, Nat.zero_le _, by simp, by simp⟩⟩)
    obtain ⟨S1, S2⟩ := (h.below BE.out).src
    have s1 := Lib.hid S1
    have s2 := Lib.hid S2
    clear S1 S2 h
    have hnil := fun W => Lib.run_eql_slice_nil (P := Try.prog) W 22 40 (some ad) l.length cap 0 0 Try.underlying22
    go_enter Try.func39, Try.ntmps39
    go_wp2_with (at_builtin; refine wpList_append_any _ rfl _ _ 22 rfl w.heap.size 40 i0 _ 12 112 Try.underlying22 hi0 hz0 hz1 hz2 rfl (by decide) (.slice (some ⟨w.heap.size, 0, none⟩) 0 0) 0 [] rfl E0.out (some ad) l.length cap (i12s l) rfl (i12s_len l) s1.out s2.out (i12s_one _) (by unfold maxLen; omega) (by omega) (by simp) ?_)
    intro v1 w1 hown1 hg1
    have B1 := Lib.hid (below_grown' BE.out hg1 (fun q hq => by have h := (World.ownsRow.lt E0.out q hq).1; omega))
    have O1 := Lib.hid (show IOwn w1 w.heap.size l v1 by unfold IOwn; first | exact hown1 | (rw [Nat.zero_add] at hown1; exact hown1) | simpa using hown1)
    clear hown1 hg1 s1 s2 E0 BE
    go_wp2_with fail
    go_ret
    exact ⟨_, rfl, B1.out, O1.out⟩
end
/-- Rows of two kinds are apart. -/
theorem rows_apart {w : World} {B B' e e' z z' n n' : Nat} {v v' : Value} {xs xs' : List Value} (h : w.ownsRow B e z v n xs) (h' : w.ownsRow B' e' z' v' n' xs') (hne : e ≠ e') : ∀ k, v.ownBlock = some k → v'.ownBlock ≠ some k := by
  intro k hk hk'
  rcases h.2 with ⟨rfl, -⟩ | ⟨g, cap, cur, rfl, -, hg, -⟩
  · cases hk
  · rcases h'.2 with ⟨rfl, -⟩ | ⟨g', cap', cur', rfl, -, hg', -⟩
    · cases hk'
    · simp only [Value.ownBlock, Option.some.injEq] at hk hk'
      subst hk hk'
      rw [hg] at hg'
      simp only [Option.some.injEq, Obj.cells.injEq] at hg'
      exact hne hg'.2.1
theorem row_off {w : World} {B e z n g t : Nat} {v : Value} {xs : List Value} {cs : Array Value} {f : Nat × Nat} (h : w.ownsRow B e z v n xs) (hg : w.heap[g]? = some (.cells cs t f)) (hne : e ≠ t) : v.ownBlock ≠ some g := by
  intro hk
  rcases h.2 with ⟨rfl, -⟩ | ⟨g', cap, cur, rfl, -, hg', -⟩
  · cases hk
  · simp only [Value.ownBlock, Option.some.injEq] at hk
    subst hk
    rw [hg] at hg'
    simp only [Option.some.injEq, Obj.cells.injEq] at hg'
    exact hne hg'.2.1.symm
theorem row_kept {w w' : World} {B e z n : Nat} {v : Value} {xs : List Value} (h : w.ownsRow B e z v n xs) {row : Option Nat} (hg : w.grownBy w' row) (hv : ∀ k, v.ownBlock = some k → row ≠ some k) : w'.ownsRow B e z v n xs :=
  World.ownsRow.kept h hg (by
    by_cases hn : v.ownBlock = none
    · exact .inl hn
    · right
      intro e
      obtain ⟨k, hk⟩ := Option.ne_none_iff_exists'.1 hn
      exact hv k hk (by rw [← e]; exact hk))
/-- The places of these names. -/
def ptsL (l : List I12) (us : List ByteArray) : List Nat := us.filterMap (iIdx l)
theorem ptsL_step {l : List I12} {us : List ByteArray} {k : Nat} {t : ByteArray} {j : Nat} (h : us[k]? = some t) (hj : iIdx l t = some j) : ptsL l (us.take (k + 1)) = ptsL l (us.take k) ++ [j] := by
  unfold ptsL
  rw [List.take_add_one, h, List.filterMap_append]
  simp [hj]
theorem ptsL_len (l : List I12) (us : List ByteArray) : (ptsL l us).length ≤ us.length := List.length_filterMap_le ..
/-- The block of a door. -/
def DBlk (w : World) (g : Nat) (a b : Value) : Prop := w.heap[g]? = some (.cells #[a, b] 53 (0, 0))
theorem DBlk.lt {w : World} {g : Nat} {a b : Value} (h : DBlk w g a b) : g < w.heap.size := (Array.getElem?_eq_some_iff.1 h).1
theorem DBlk.cells {w : World} {g : Nat} {a b : Value} (h : DBlk w g a b) : w.cell? ⟨g, 0, none⟩ = some a ∧ w.cell? ⟨g, 1, none⟩ = some b := ⟨(cell_of_row _ _ 0 _ _ _ h).trans rfl, (cell_of_row _ _ 1 _ _ _ h).trans rfl⟩
theorem DBlk.below {w w' : World} {g : Nat} {a b : Value} (h : DBlk w g a b) (hb : Below w.heap.size w w') : DBlk w' g a b := (hb.block g h.lt).trans h
theorem DBlk.new (w : World) (a b : Value) : DBlk (w.alloc (.cells #[a, b] 53)) w.heap.size a b := heap_alloc_new w _
theorem DBlk.free {w : World} {g : Nat} {a b : Value} (h : DBlk w g a b) (o : Nat) : w.frozen? ⟨g, o, none⟩ = false := by
  unfold DBlk at h
  simp [World.frozen?, h]
theorem DBlk.set2 {w : World} {g : Nat} {a b : Value} (h : DBlk w g a b) (a' b' : Value) : DBlk ((w.setCell ⟨g, 0, none⟩ a').setCell ⟨g, 1, none⟩ b') g a' b' := by
  have h0 := heap_setCell_same w g 0 _ _ a' h
  exact heap_setCell_same _ g 1 _ _ b' h0
theorem DBlk.setUp {w : World} {g : Nat} {a b : Value} (h : DBlk w g a b) (b' : Value) : DBlk (w.setCell ⟨g, 1, none⟩ b') g a b' := heap_setCell_same w g 1 _ _ b' h
theorem DBlk.kept {w w' : World} {g : Nat} {a b : Value} (h : DBlk w g a b) {row : Option Nat} (hg : w.grownBy w' row) (hr : row ≠ some g) : DBlk w' g a b := (hg.block g h.lt (fun e => hr e.symm)).trans h
section
variable (w : World)
set_option maxHeartbeats 8000000 in
set_option maxRecDepth 20000 in
theorem pdoor1 (l : List I12) (lv : Value) (s : ByteArray) (v : V3) (hm : mayV v = false) :
    Calls Try.prog 23 #[lv, .string s, .agg #[.int .i64 v.c, .int .i64 v.m, .int .i64 v.p]] w fun e w' => e = .returned (.tuple #[.agg #[.slice none 0 0, .slice none 0 0], .int .i64 1]) ∧ Below w.heap.size w w' := by
  have MA := Lib.hid (show ∀ W, Calls Try.prog 37 #[.agg #[.int .i64 v.c, .int .i64 v.m, .int .i64 v.p]] W (Made (.bool false) W) from fun W => by have := vmay_any W v; rwa [hm] at this)
  have B0 := Lib.hid (below_al (below_al (Below.refl w.heap.size w) (.cells #[.int .i64 v.c, .int .i64 v.m, .int .i64 v.p] 24)) (.cells #[.slice none 0 0, .slice none 0 0] 53))
  have D0 := Lib.hid (show DBlk ((w.alloc (.cells #[.int .i64 v.c, .int .i64 v.m, .int .i64 v.p] 24)).alloc (.cells #[.slice none 0 0, .slice none 0 0] 53)) (w.heap.size + 1) (.slice none 0 0) (.slice none 0 0) from heap_at (by simp))
  have V0 := Lib.hid (show CBlk ((w.alloc (.cells #[.int .i64 v.c, .int .i64 v.m, .int .i64 v.p] 24)).alloc (.cells #[.slice none 0 0, .slice none 0 0] 53)) w.heap.size v from (CBlk.new w v).below (below_al (Below.refl _ (w.alloc (.cells #[.int .i64 v.c, .int .i64 v.m, .int .i64 v.p] 24))) (.cells #[.slice none 0 0, .slice none 0 0] 53)))
  obtain ⟨t0, t1, t2, -⟩ := V0.out.cells
  clear hm
  go_enter Try.func23, Try.ntmps23
  go_wp2_with fail
  generalize hw1 : ((w.alloc (.cells #[.int .i64 v.c, .int .i64 v.m, .int .i64 v.p] 24)).alloc (.cells #[.slice none 0 0, .slice none 0 0] 53)) = w1 at *
  with_reducible refine (MA.out _).mono ?_
  rintro e w2 ⟨rfl, hb⟩
  have B1 := Lib.hid (below_tr B0.out hb)
  have D1 := Lib.hid (D0.out.below hb)
  have f0 := D1.out.free 0
  have f1 := D1.out.free 1
  obtain ⟨b0, b1⟩ := D1.out.cells
  clear hb t0 t1 t2
  go_wp2_with fail
  have SF := D1.out.set2 (.slice none 0 0) (.slice none 0 0)
  have BF := Lib.hid (below_set2 B1.out (Nat.le_succ w.heap.size) (.slice none 0 0) (.slice none 0 0))
  obtain ⟨c0, c1⟩ := SF.cells
  exact bodyPost_ret (v := .tuple #[.agg #[.slice none 0 0, .slice none 0 0], .int .i64 1]) (by simp [results, Try.results23, go_sem, c0, c1]) rfl ⟨rfl, BF.out⟩
set_option maxHeartbeats 8000000 in
set_option maxRecDepth 20000 in
theorem pdoor2 (l : List I12) (lv : Value) (h : IRow w l lv) (hr : RT l) (s : ByteArray) (v : V3) (hm : mayV v = true) (hu : upI l s = []) :
    Calls Try.prog 23 #[lv, .string s, .agg #[.int .i64 v.c, .int .i64 v.m, .int .i64 v.p]] w fun e w' => e = .returned (.tuple #[.agg #[.slice none 0 0, .slice none 0 0], .int .i64 2]) ∧ Below w.heap.size w w' := by
  have MA := Lib.hid (show ∀ W, Calls Try.prog 37 #[.agg #[.int .i64 v.c, .int .i64 v.m, .int .i64 v.p]] W (Made (.bool true) W) from fun W => by have := vmay_any W v; rwa [hm] at this)
  have RU := Lib.hid (fun W (hW : Below w.heap.size w W) => (show Calls Try.prog 38 #[lv, .string s] W (MadeStrs [] W) from by
    have := pUp W l lv (h.below hW) (by have := hr.len; omega) hr.srt s
    rwa [up_same (hr.up s), hu] at this))
  have B0 := Lib.hid (below_al (below_al (Below.refl w.heap.size w) (.cells #[.int .i64 v.c, .int .i64 v.m, .int .i64 v.p] 24)) (.cells #[.slice none 0 0, .slice none 0 0] 53))
  have D0 := Lib.hid (show DBlk ((w.alloc (.cells #[.int .i64 v.c, .int .i64 v.m, .int .i64 v.p] 24)).alloc (.cells #[.slice none 0 0, .slice none 0 0] 53)) (w.heap.size + 1) (.slice none 0 0) (.slice none 0 0) from heap_at (by simp))
  have V0 := Lib.hid (show CBlk ((w.alloc (.cells #[.int .i64 v.c, .int .i64 v.m, .int .i64 v.p] 24)).alloc (.cells #[.slice none 0 0, .slice none 0 0] 53)) w.heap.size v from (CBlk.new w v).below (below_al (Below.refl _ (w.alloc (.cells #[.int .i64 v.c, .int .i64 v.m, .int .i64 v.p] 24))) (.cells #[.slice none 0 0, .slice none 0 0] 53)))
  obtain ⟨t0, t1, t2, -⟩ := V0.out.cells
  clear hm h hr hu
  go_enter Try.func23, Try.ntmps23
  go_wp2_with fail
  generalize hw1 : ((w.alloc (.cells #[.int .i64 v.c, .int .i64 v.m, .int .i64 v.p] 24)).alloc (.cells #[.slice none 0 0, .slice none 0 0] 53)) = w1 at *
  with_reducible refine (MA.out _).mono ?_
  rintro e w2 ⟨rfl, hb⟩
  have B1 := Lib.hid (below_tr B0.out hb)
  have D1 := Lib.hid (D0.out.below hb)
  clear hb t0 t1 t2
  go_wp2_with fail
  with_reducible refine (RU.out _ B1.out).mono ?_
  rintro e w3 ⟨uv, rfl, hb, ho⟩
  have B2 := Lib.hid (below_tr B1.out hb)
  have D2 := Lib.hid (D1.out.below hb)
  obtain ⟨uo, uc, rfl⟩ := ho.shape
  have f0 := D2.out.free 0
  have f1 := D2.out.free 1
  obtain ⟨b0, b1⟩ := D2.out.cells
  clear hb ho
  go_wp2_with fail
  have SF := D2.out.set2 (.slice none 0 0) (.slice none 0 0)
  have BF := Lib.hid (below_set2 B2.out (Nat.le_succ w.heap.size) (.slice none 0 0) (.slice none 0 0))
  obtain ⟨c0, c1⟩ := SF.cells
  exact bodyPost_ret (v := .tuple #[.agg #[.slice none 0 0, .slice none 0 0], .int .i64 2]) (by simp [results, Try.results23, go_sem, c0, c1]) rfl ⟨rfl, BF.out⟩
set_option maxHeartbeats 8000000 in
set_option maxRecDepth 20000 in
theorem pdoor0 (l : List I12) (lv : Value) (h : IRow w l lv) (hr : RT l) (s : ByteArray) (v : V3) (hm : mayV v = true) (hu : upI l s ≠ []) :
    Calls Try.prog 23 #[lv, .string s, .agg #[.int .i64 v.c, .int .i64 v.m, .int .i64 v.p]] w fun e w' => ∃ iv uv, e = .returned (.tuple #[.agg #[iv, uv], .int .i64 0]) ∧ Below w.heap.size w w' ∧ IOwn w' w.heap.size l iv ∧ w'.ownsRow w.heap.size 3 1 uv (ptsL l (upI l s)).length (natC (ptsL l (upI l s))) := by
  have hl : l.length ≤ 120 := hr.len
  obtain ⟨i0, hi0, hz0, hz1, hz2⟩ := info_partsT info_int
  have H := Lib.hid h
  have MA := Lib.hid (show ∀ W, Calls Try.prog 37 #[.agg #[.int .i64 v.c, .int .i64 v.m, .int .i64 v.p]] W (Made (.bool true) W) from fun W => by have := vmay_any W v; rwa [hm] at this)
  have CL := Lib.hid (fun W (hW : Below w.heap.size w W) => pcloneI W l lv (h.below hW) (by omega))
  have RU := Lib.hid (fun W (hW : Below w.heap.size w W) => (show Calls Try.prog 38 #[lv, .string s] W (MadeStrs (upI l s) W) from by
    have := pUp W l lv (h.below hW) (by omega) hr.srt s
    rwa [up_same (hr.up s)] at this))
  have RF := Lib.hid (fun W (hW : Below w.heap.size w W) t => pFind W l lv (h.below hW) (by omega) hr.srt t)
  have UF := Lib.hid (fun t (ht : t ∈ upI l s) => up_found ht)
  have UL := Lib.hid (show (upI l s).length ≤ 120 from by have := hr.up s; omega)
  have ne : (((upI l s).length : Int) == 0) = false := beq_false_of_ne (by have : (upI l s).length ≠ 0 := fun e => hu (List.eq_nil_of_length_eq_zero e); omega)
  obtain ⟨ao, cap, rfl⟩ := h.shape
  have B0 := Lib.hid (below_al (below_al (Below.refl w.heap.size w) (.cells #[.int .i64 v.c, .int .i64 v.m, .int .i64 v.p] 24)) (.cells #[.slice none 0 0, .slice none 0 0] 53))
  have D0 := Lib.hid (show DBlk ((w.alloc (.cells #[.int .i64 v.c, .int .i64 v.m, .int .i64 v.p] 24)).alloc (.cells #[.slice none 0 0, .slice none 0 0] 53)) (w.heap.size + 1) (.slice none 0 0) (.slice none 0 0) from heap_at (by simp))
  have V0 := Lib.hid (show CBlk ((w.alloc (.cells #[.int .i64 v.c, .int .i64 v.m, .int .i64 v.p] 24)).alloc (.cells #[.slice none 0 0, .slice none 0 0] 53)) w.heap.size v from (CBlk.new w v).below (below_al (Below.refl _ (w.alloc (.cells #[.int .i64 v.c, .int .i64 v.m, .int .i64 v.p] 24))) (.cells #[.slice none 0 0, .slice none 0 0] 53)))
  obtain ⟨t0, t1, t2, -⟩ := V0.out.cells
  clear h hr hm hu
  generalize upI l s = us at *
  go_enter Try.func23, Try.ntmps23
  go_wp2_with fail
  generalize hw1 : ((w.alloc (.cells #[.int .i64 v.c, .int .i64 v.m, .int .i64 v.p] 24)).alloc (.cells #[.slice none 0 0, .slice none 0 0] 53)) = w01 at *
  with_reducible refine (MA.out _).mono ?_
  rintro e w02 ⟨rfl, hb⟩
  have B01 := Lib.hid (below_tr B0.out hb)
  have D01 := Lib.hid (D0.out.below hb)
  clear hb t0 t1 t2 hw1
  go_wp2_with fail
  with_reducible refine (RU.out _ B01.out).mono ?_
  rintro e w03 ⟨uv, rfl, hb, ho⟩
  have B02 := Lib.hid (below_tr B01.out hb)
  have D02 := Lib.hid (D01.out.below hb)
  have S02 := Lib.hid (show StrsO w03 w.heap.size uv us from own_lower0 ho B01.out.size)
  obtain ⟨uo, uc, rfl⟩ := ho.shape
  clear hb ho RU
  go_wp2_with fail
  with_reducible refine (CL.out _ B02.out).mono ?_
  rintro e w1 ⟨iv, rfl, hb1, ho1⟩
  have B1 := Lib.hid (below_tr B02.out hb1)
  have D1 := Lib.hid (D02.out.below hb1)
  have S1 := Lib.hid (show StrsO w1 w.heap.size (.slice uo us.length uc) us from own_below S02.out hb1)
  have O1 := Lib.hid (show IOwn w1 w.heap.size l iv from own_lower0 ho1 B02.out.size)
  have DE := Lib.hid (DBlk.new w1 iv (.slice none 0 0))
  have DX := Lib.hid (below_al (Below.refl w1.heap.size w1) (.cells #[iv, .slice none 0 0] 53))
  have D3 := Lib.hid (D1.out.below DX.out)
  have B3 := Lib.hid (below_al B1.out (.cells #[iv, .slice none 0 0] 53))
  have O3 := Lib.hid (show IOwn (w1.alloc (.cells #[iv, .slice none 0 0] 53)) w.heap.size l iv from World.ownsRow.alloc O1.out _)
  have S0 := Lib.hid (show StrsO (w1.alloc (.cells #[iv, .slice none 0 0] 53)) w.heap.size (.slice uo us.length uc) us from own_below S1.out DX.out)
  have GE := Lib.hid B1.out.size
  have NE := Lib.hid (show w.heap.size + 1 ≠ w1.heap.size from by have := D1.out.lt; omega)
  obtain ⟨io, ic, rfl⟩ := (irow_of_own ho1).shape
  have u120 : us.length ≤ 120 := UL.out
  clear hb1 ho1 CL
  go_wp2_with fail
  generalize w1.alloc (.cells #[.slice io l.length ic, .slice none 0 0] 53) = w3 at *
  generalize hbd : w1.heap.size = bd at *
  go_loopg [28] us.length (fun m iv wr => ∃ (k : Nat) (pv : Value), iv = .int .i64 (k : Int) ∧ us.length - k ≤ m ∧ k ≤ us.length ∧ Below w.heap.size w wr ∧ DBlk wr (w.heap.size + 1) (.slice none 0 0) (.slice none 0 0) ∧ IOwn wr w.heap.size l (.slice io l.length ic) ∧ StrsO wr w.heap.size (.slice uo us.length uc) us ∧ DBlk wr bd (.slice io l.length ic) pv ∧ wr.ownsRow w.heap.size 3 1 pv (ptsL l (us.take k)).length (natC (ptsL l (us.take k))))
  case atStart => exact ⟨0, .slice none 0 0, rfl, Nat.le_refl _, Nat.zero_le _, B3.out, D3.out, O3.out, S0.out, DE.out, (own_none _ _ _ _ : World.ownsRow _ _ _ _ _ _ _)⟩
  case round =>
    obtain ⟨k, pv, rfl, hm, hk, hb, hd, hi, hs, hde, hp⟩ := hrel
    have HM := Lib.hid hm
    have BR := Lib.hid hb
    have DR := Lib.hid hd
    have IR := Lib.hid hi
    have SR := Lib.hid hs
    have ER := Lib.hid hde
    have PR := Lib.hid hp
    clear hm hb hd hi hs hde hp
    by_cases hlt : k < us.length
    · obtain ⟨t, ht⟩ : ∃ t, us[k]? = some t := ⟨_, List.getElem?_eq_getElem hlt⟩
      obtain ⟨j, x, hj, hx, hlk⟩ := UF.out t (List.mem_of_getElem? ht)
      obtain ⟨wu, eb, u0⟩ := SR.out.cell ht
      obtain rfl := eb
      have FE : findI l t = (j : Int) := by unfold findI; rw [hj]
      have RF1 := Lib.hid (RF.out wr BR.out t)
      rw [FE] at RF1
      have FE2 := Lib.hid FE
      have STEP := Lib.hid (ptsL_step (l := l) ht hj)
      have PLN := Lib.hid (show (ptsL l (us.take k)).length ≤ 120 from Nat.le_trans (ptsL_len _ _) (by rw [List.length_take]; omega))
      have z0 : (0 : Int) ≤ (k : Int) := by omega
      have z1 : (k : Int) < (us.length : Int) := by omega
      generalize ptsL l (us.take k) = ps at *
      obtain ⟨po, pc, rfl⟩ := own_shape PR.out
      have b1 := ER.out.cells.2
      have fb := ER.out.free 1
      clear hj hx hlk ht FE
      go_upto_region 10 with fail
      have POF := Lib.hid (row_off PR.out ER.out (by decide))
      have RF2 := Lib.hid (show ∀ W, Below wr.heap.size wr W → Calls Try.prog 40 #[.slice ao l.length cap, .string t] W (Made (.int .i64 (j : Int)) W) from fun W hW => by
        have := RF.out W (BR.out.trans (hW.mono BR.out.size)) t
        rwa [FE2.out] at this)
      go_region_law (first
        | (go_simp; go_at_call 40; refine (RF2.out _ ?_).mono ?_; (· first | exact Below.refl _ _ | exact (Below.refl _ _).drew); rintro e w4 ⟨rfl, hb4⟩; replace hb4 : Below wr.heap.size wr w4 := ⟨hb4.os, hb4.tape, hb4.output, hb4.size, hb4.block⟩; have c4 := hold hb4 b1; have P4 := Lib.hid (own_below PR.out hb4); have N4 := Lib.hid (news_new w4 #[.int .i64 (j : Int)] 3); have E4 := Lib.hid ((ER.out.below hb4).below (below_al (Below.refl w4.heap.size w4) (.cells #[.int .i64 (j : Int)] 3))); have c4a := E4.out.cells.2; have H4 := Lib.hid hb4; clear hb4)
        | (refine step_append_lies _ (by rfl) _ _ _ (by rfl) w.heap.size 3 i0 (.int .i64 0) 1 8 Try.underlying51 hi0 hz0 hz1 hz2 rfl (by decide) (.slice po ps.length pc) ps.length (natC ps) (by rfl) (by exact (World.ownsRow.alloc P4.out _)) ⟨w4.heap.size, 0, none⟩ 1 1 [.int .i64 (j : Int)] (by rfl) (by rfl) (by exact N4.out) (by simp [Value.oneCell']) (by decide) (by have := PLN.out; unfold maxLen; omega) (by have := PLN.out; omega) (by have h1 := BR.out.size; have h2 := H4.out.size; simp; omega) (w4.heap.size + 1) (by simp) ?_; intro gg cc w6 hown' hgrow hat hlt6; have E6 := Lib.hid (show DBlk w6 bd (.slice io l.length ic) (.slice po ps.length pc) from (hgrow.block bd (by have := E4.out.lt; simpa using this) (fun e => POF.out e.symm)).trans E4.out); have c6 := E6.out.cells.2; have f6 := E6.out.free 1))
      all_goals
        have NM := Lib.hid (show Below w.heap.size w (w6.setCell ⟨bd, 1, none⟩ (.slice (some ⟨gg, 0, none⟩) (ps.length + 1) cc)) ∧ DBlk (w6.setCell ⟨bd, 1, none⟩ (.slice (some ⟨gg, 0, none⟩) (ps.length + 1) cc)) (w.heap.size + 1) (.slice none 0 0) (.slice none 0 0) ∧ IOwn (w6.setCell ⟨bd, 1, none⟩ (.slice (some ⟨gg, 0, none⟩) (ps.length + 1) cc)) w.heap.size l (.slice io l.length ic) ∧ StrsO (w6.setCell ⟨bd, 1, none⟩ (.slice (some ⟨gg, 0, none⟩) (ps.length + 1) cc)) w.heap.size (.slice (some ⟨wu, 0, none⟩) us.length uc) us ∧ DBlk (w6.setCell ⟨bd, 1, none⟩ (.slice (some ⟨gg, 0, none⟩) (ps.length + 1) cc)) bd (.slice io l.length ic) (.slice (some ⟨gg, 0, none⟩) (ps.length + 1) cc) ∧ (w6.setCell ⟨bd, 1, none⟩ (.slice (some ⟨gg, 0, none⟩) (ps.length + 1) cc)).ownsRow w.heap.size 3 1 (.slice (some ⟨gg, 0, none⟩) (ps.length + 1) cc) (ps ++ [j]).length (natC (ps ++ [j])) from by
          have hgr : (w4.alloc (.cells #[.int .i64 (j : Int)] 3)).grownBy w6 (Value.slice po ps.length pc).ownBlock := ⟨hgrow.os, hgrow.tape, hgrow.output, hgrow.size, hgrow.block⟩
          have ba := below_tr H4.out (below_al (Below.refl w4.heap.size w4) (.cells #[.int .i64 (j : Int)] 3))
          have b6 : Below w.heap.size w w6 := below_grown' (BR.out.trans (ba.mono BR.out.size)) hgr (fun q hq => (World.ownsRow.lt PR.out q hq).1)
          have i6 := row_kept (own_below IR.out ba) hgr (rows_apart IR.out PR.out (by decide))
          have s6 := row_kept (own_below SR.out ba) hgr (rows_apart SR.out PR.out (by decide))
          have d6 := (DR.out.below ba).kept hgr (row_off PR.out DR.out (by decide))
          have o6 : w6.ownsRow w.heap.size 3 1 (.slice (some ⟨gg, 0, none⟩) (ps.length + 1) cc) (ps ++ [j]).length (natC (ps ++ [j])) := by
            rw [List.length_append, natC_app]; exact hown'
          have g1 : (Value.slice io l.length ic).ownBlock ≠ some bd := row_off i6 E6.out (by decide)
          have g2 : (Value.slice (some ⟨wu, 0, none⟩) us.length uc).ownBlock ≠ some bd := row_off s6 E6.out (by decide)
          have g3 : (Value.slice (some ⟨gg, 0, none⟩) (ps.length + 1) cc).ownBlock ≠ some bd := row_off o6 E6.out (by decide)
          exact ⟨b6.setCell (by exact GE.out) _, (heap_setCell_other w6 ⟨bd, 1, none⟩ (w.heap.size + 1) _ NE.out).trans d6, ownsRow_setCell_other i6 g1 _, ownsRow_setCell_other s6 g2 _, E6.out.setUp _, ownsRow_setCell_other o6 g3 _⟩)
        clear hown' hgrow hat hlt6 c6 f6 E6
        go_wp2_with fail
        go_roundg (us.length - (k + 1))
        case rel => exact ⟨k + 1, _, by go_num, Nat.le_refl _, hlt, NM.out.1, NM.out.2.1, NM.out.2.2.1, NM.out.2.2.2.1, NM.out.2.2.2.2.1, by rw [STEP.out]; exact NM.out.2.2.2.2.2⟩
        case measure => have := HM.out; omega
    · obtain rfl : k = us.length := by omega
      rw [List.take_length] at PR
      obtain ⟨po, pc, rfl⟩ := own_shape PR.out
      obtain ⟨b0, b1⟩ := ER.out.cells
      obtain ⟨e0, e1⟩ := DR.out.cells
      have f0 := DR.out.free 0
      have f1 := DR.out.free 1
      go_wp2_with fail
      have SF := DR.out.set2 (.slice io l.length ic) (.slice po (ptsL l us).length pc)
      have BF := Lib.hid (below_set2 BR.out (Nat.le_succ w.heap.size) (.slice io l.length ic) (.slice po (ptsL l us).length pc))
      have h1 := row_off IR.out DR.out (by decide)
      have h2 := row_off PR.out DR.out (by decide)
      have IF := Lib.hid (ownsRow_setCell_other (ownsRow_setCell_other IR.out (a := ⟨w.heap.size + 1, 0, none⟩) h1 (.slice io l.length ic)) (a := ⟨w.heap.size + 1, 1, none⟩) h1 (.slice po (ptsL l us).length pc))
      have PF := Lib.hid (ownsRow_setCell_other (ownsRow_setCell_other PR.out (a := ⟨w.heap.size + 1, 0, none⟩) h2 (.slice io l.length ic)) (a := ⟨w.heap.size + 1, 1, none⟩) h2 (.slice po (ptsL l us).length pc))
      generalize (wr.setCell ⟨w.heap.size + 1, 0, none⟩ (.slice io l.length ic)).setCell ⟨w.heap.size + 1, 1, none⟩ (.slice po (ptsL l us).length pc) = wf at *
      obtain ⟨c0, c1⟩ := SF.cells
      exact bodyPost_ret (v := .tuple #[.agg #[.slice io l.length ic, .slice po (ptsL l us).length pc], .int .i64 0]) (by simp [results, Try.results23, go_sem, c0, c1]) rfl ⟨_, _, rfl, BF.out, IF.out, PF.out⟩
end
end Go.Proofs.Ytekaefeogbmmmaa
