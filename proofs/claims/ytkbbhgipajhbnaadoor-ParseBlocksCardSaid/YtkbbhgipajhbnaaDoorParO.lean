/- Package parse's reader of blocks: one block. -/
import Derived.Test.YtkbbhgipajhbnaaDoorParN
namespace Go.Proofs.YtkbbhgipajhbnaaDoor
open Go.RowKit
set_option linter.unusedVariables false
set_option linter.unusedSimpArgs false

def BB (w : World) (g : Nat) (a c d e : Value) : Prop := w.heap[g]? = some (.cells #[a, c, d, e] 33 (0, 0))
theorem BB.lt {w : World} {g : Nat} {a c d e : Value} (h : BB w g a c d e) : g < w.heap.size := (Array.getElem?_eq_some_iff.1 h).1
theorem BB.same {w w' : World} {g : Nat} {a c d e : Value} (h : BB w g a c d e) (hs : w'.heap[g]? = w.heap[g]?) : BB w' g a c d e := hs.trans h
theorem BB.below {w w' : World} {g : Nat} {a c d e : Value} (h : BB w g a c d e) (hb : Below w.heap.size w w') : BB w' g a c d e := h.same (hb.block g h.lt)
theorem BB.turn {w w' : World} {b g : Nat} {a c d e : Value} (h : BB w g a c d e) (t : Turn b nilv nilv w w') (hne : g ≠ b) : BB w' g a c d e := h.same (t.block g h.lt hne (by simp [nilv, Value.ownBlock]))
theorem BB.cells {w : World} {g : Nat} {a c d e : Value} (h : BB w g a c d e) : w.cell? ⟨g, 0, none⟩ = some a ∧ w.cell? ⟨g, 1, none⟩ = some c ∧ w.cell? ⟨g, 2, none⟩ = some d ∧ w.cell? ⟨g, 3, none⟩ = some e :=
  ⟨cell_of_row w g 0 _ _ _ h, cell_of_row w g 1 _ _ _ h, cell_of_row w g 2 _ _ _ h, cell_of_row w g 3 _ _ _ h⟩
theorem BB.free {w : World} {g : Nat} {a c d e : Value} (h : BB w g a c d e) (o : Nat) : w.frozen? ⟨g, o, none⟩ = false := by
  have h : w.heap[g]? = some (.cells #[a, c, d, e] 33 (0, 0)) := h
  simp [World.frozen?, h]
theorem BB.put0 {w : World} {g : Nat} {a c d e : Value} (h : BB w g a c d e) (v : Value) : BB (w.setCell ⟨g, 0, none⟩ v) g v c d e := heap_setCell_same w g 0 _ _ v h
theorem BB.put1 {w : World} {g : Nat} {a c d e : Value} (h : BB w g a c d e) (v : Value) : BB (w.setCell ⟨g, 1, none⟩ v) g a v d e := heap_setCell_same w g 1 _ _ v h
theorem BB.put2 {w : World} {g : Nat} {a c d e : Value} (h : BB w g a c d e) (v : Value) : BB (w.setCell ⟨g, 2, none⟩ v) g a c v e := heap_setCell_same w g 2 _ _ v h
theorem BB.put3 {w : World} {g : Nat} {a c d e : Value} (h : BB w g a c d e) (v : Value) : BB (w.setCell ⟨g, 3, none⟩ v) g a c d v := heap_setCell_same w g 3 _ _ v h
theorem BB.new (w : World) (a c d e : Value) : BB (w.alloc (.cells #[a, c, d, e] 33)) w.heap.size a c d e := heap_alloc_new w _
theorem put_keep {w : World} {b g : Nat} {a c d e : Value} (h : BB w g a c d e) (j : Nat) (v : Value) : Keep (· ≠ 33) b w (w.setCell ⟨g, j, none⟩ v) := fun k cur e' hk hne hc => by
  refine (Below.heap_setCell _ _ _ _ fun eq => ?_).trans hc
  simp at eq
  subst eq
  have h : w.heap[k]? = some (.cells #[a, c, d, e] 33 (0, 0)) := h
  rw [h] at hc
  simp at hc
  exact hne hc.2.symm
theorem put_other {w : World} {g k : Nat} (j : Nat) (v : Value) (hk : k ≠ g) : (w.setCell ⟨g, j, none⟩ v).heap[k]? = w.heap[k]? := Below.heap_setCell _ _ _ _ hk
theorem Pr.put {C : Ctx} {w : World} {b g : Nat} {nv : Value} {S : PS} {a c d e : Value} (p : Pr C w b nv S) (h : BB w g a c d e) (hbg : b < g) (j : Nat) (v : Value) : Pr C (w.setCell ⟨g, j, none⟩ v) b nv S :=
  p.keep (put_keep h j v) (by decide) (by decide) (put_other j v (Nat.ne_of_lt hbg)) (Below.setCell (p := ⟨g, j, none⟩) (Below.refl b w) (Nat.le_of_lt hbg) v)
theorem Turn.put {b g : Nat} {w w' : World} (t : Turn b nilv nilv w w') (hg : w.heap.size ≤ g) (j : Nat) (v : Value) : Turn b nilv nilv w (w'.setCell ⟨g, j, none⟩ v) :=
  ⟨t.os, t.tape, t.output, by simpa [World.setCell] using t.size, fun k hk hne hno => (put_other j v (by omega)).trans (t.block k hk hne hno), .inl rfl⟩
theorem QB.keep' {C : Ctx} {w w' : World} {b : Nat} {lvl : Bool} {X : Nat → Prop} {v : Value} {l : List BlockL} (h : QB C w b lvl X v l) (k : Keep (· ≠ 33) b w w')
    (hX : ∀ g, b + 1 ≤ g → g < w.heap.size → ¬ X g → w'.heap[g]? = w.heap[g]?) : QB C w' b lvl X v l := h.keep k hX fun _ _ _ h => h
def setBlk (w : World) (g : Nat) (v0 v1 v2 v3 : Value) : World := (((w.setCell ⟨g, 0, none⟩ v0).setCell ⟨g, 1, none⟩ v1).setCell ⟨g, 2, none⟩ v2).setCell ⟨g, 3, none⟩ v3
theorem blk_final {C : Ctx} {w W : World} {b g : Nat} {nv : Value} {S : PS} {a c d e : Value} (p : Pr C W b nv S) (R : BB W g a c d e) (hbg : b < g) (t : Turn b nilv nilv w W) (hg : w.heap.size ≤ g) (v0 v1 v2 v3 : Value) :
    Pr C (setBlk W g v0 v1 v2 v3) b nv S ∧ BB (setBlk W g v0 v1 v2 v3) g v0 v1 v2 v3 ∧ Keep (· ≠ 33) b W (setBlk W g v0 v1 v2 v3) ∧ (∀ k, k ≠ g → (setBlk W g v0 v1 v2 v3).heap[k]? = W.heap[k]?) ∧ Turn b nilv nilv w (setBlk W g v0 v1 v2 v3) :=
  ⟨(((p.put R hbg 0 v0).put (R.put0 v0) hbg 1 v1).put ((R.put0 v0).put1 v1) hbg 2 v2).put (((R.put0 v0).put1 v1).put2 v2) hbg 3 v3,
   (((R.put0 v0).put1 v1).put2 v2).put3 v3,
   (((put_keep R 0 v0).trans (put_keep (R.put0 v0) 1 v1)).trans (put_keep ((R.put0 v0).put1 v1) 2 v2)).trans (put_keep (((R.put0 v0).put1 v1).put2 v2) 3 v3),
   fun k hk => (put_other 3 v3 hk).trans ((put_other 2 v2 hk).trans ((put_other 1 v1 hk).trans (put_other 0 v0 hk))),
   (((t.put hg 0 v0).put hg 1 v1).put hg 2 v2).put hg 3 v3⟩
section
variable (C : Ctx) (b : Nat) (w : World) (nv : Value) (S : PS)
set_option maxHeartbeats 16000000 in
set_option maxRecDepth 20000 in
theorem pblock (N M : Nat) (lvl : Bool) (inner : PS → Option (List BlockL × PS))
    (hin : lvl = true → ∀ w nv S rs S', Pr C w b nv S → inner S = some (rs, S') → Calls Tryd.prog 13 #[.pointer (some ⟨b, 0, none⟩), .bool true] w (BlksPost C b false w rs S'))
    (h : Pr C w b nv S) (x : BlockL) (S' : PS) (hr : blockE N M C.T (!lvl) inner S = some (x, S')) :
    Calls Tryd.prog 22 #[.pointer (some ⟨b, 0, none⟩), .bool (!lvl)] w (BlkPost C b lvl w x S') := by
  have H := Lib.hid h
  have HB := Lib.hid h.hb
  obtain ⟨t, ht⟩ := h.tok
  simp only [blockE, ht, Option.bind_some] at hr
  have HT := Lib.hid ht
  have HI := Lib.hid hin
  have hfew := C.few
  have hat : (S.at_ : Int) ≤ 100000 := by have := h.lt; omega
  have qb0 : ∀ (W : World) (X : Nat → Prop), QB C W b lvl X (.slice none 0 0) [] := fun W X => by
    cases lvl
    · exact ⟨rfl, rfl⟩
    · exact ⟨⟨[], World.ownsRow_nil _ _ _ _, rfl⟩, fun g hg => by simp [Value.ownBlock] at hg⟩
  have QB0 := Lib.hid qb0
  have at0 : ∀ (W : World), AttrsIn C W b (.slice none 0 0) [] := fun W => ⟨[], World.ownsRow_nil _ _ _ _, rfl⟩
  have AT0 := Lib.hid at0
  clear h ht hfew hin qb0 at0
  by_cases hk : kindOf t.text = 0 ∨ (kindOf t.text = 5 ∧ (!lvl) = true)
  · rw [if_pos hk] at hr
    simp only [Option.some.injEq, Prod.mk.injEq] at hr
    obtain ⟨rfl, rfl⟩ := hr
    have hcond : ∃ c1 c2 : Bool, (kindOf t.text == 0) = c1 ∧ (kindOf t.text == 5) = c2 ∧ (c1 = true ∨ (c1 = false ∧ c2 = true ∧ (!lvl) = true)) := by
      rcases hk with hk | ⟨hk, hl⟩
      · exact ⟨true, _, by simpa using hk, rfl, .inl rfl⟩
      · exact ⟨false, true, by rw [hk]; rfl, by rw [hk]; rfl, .inr ⟨rfl, rfl, hl⟩⟩
    clear hk
    obtain ⟨c1, c2, g0, g5, hc⟩ := hcond
    generalize hiD : (!lvl) = iD at *
    clear hiD
    rcases hc with rfl | ⟨rfl, rfl, rfl⟩
    · clear g5
      go_enter Tryd.func22, Tryd.ntmps22
      go_upto_region 1 with fail
      have B1 := Lib.hid (show Below w.heap.size w (w.alloc (.cells #[.int .i64 0, .string ⟨#[]⟩, .slice none 0 0, .slice none 0 0] 33)) from (Below.refl _ _).alloc (Nat.le_refl _) _)
      have R1 := Lib.hid (BB.new w (.int .i64 0) (.string ⟨#[]⟩) (.slice none 0 0) (.slice none 0 0))
      have K1 := Lib.hid (H.out.below B1.out)
      have A1 := Lib.hid (Turn.below (b := b) (nv := nilv) B1.out)
      generalize w.alloc (.cells #[.int .i64 0, .string ⟨#[]⟩, .slice none 0 0, .slice none 0 0] 33) = w1 at *
      have HG := Lib.hid (show b < w.heap.size ∧ w.heap.size ≠ b from ⟨HB.out, Nat.ne_of_gt HB.out⟩)
      have HW := Lib.hid (Nat.le_refl w.heap.size)
      go_wp2_with fail
      refine (ppeek C b _ nv S K1.out t HT.out).mono ?_
      rintro e w2 ⟨pv, rfl, -, hb2⟩
      have K2 := Lib.hid (K1.out.below hb2)
      have A2 := Lib.hid (A1.out.trans (Turn.below (b := b) (nv := nilv) hb2))
      have R2 := Lib.hid (R1.out.below hb2)
      have q1 := fld1 w2 (.int .i64 t.kind) (.string t.text) (.int .i64 t.num) pv (.int .i64 t.at_)
      clear hb2
      go_wp2_with fail
      clear q1
      refine (pkind t.text _).mono ?_
      rintro e w2' ⟨rfl, rfl⟩
      go_upto_region 2 with fail
      generalize kindOf t.text = kd at *
      have B3 := Lib.hid (show Below w2.heap.size w2 (w2.alloc (.cells #[.int .i64 kd, .string ⟨#[]⟩, .slice none 0 0, .slice none 0 0] 33)) from (Below.refl _ _).alloc (Nat.le_refl _) _)
      have D3 := Lib.hid (BB.new w2 (.int .i64 kd) (.string ⟨#[]⟩) (.slice none 0 0) (.slice none 0 0))
      have K3 := Lib.hid (K2.out.below B3.out)
      have A3 := Lib.hid (A2.out.trans (Turn.below (b := b) (nv := nilv) B3.out))
      have R3 := Lib.hid (R2.out.below B3.out)
      have hn1 : w2.heap.size ≠ b := Nat.ne_of_gt K2.out.hb
      have hn2 : w2.heap.size ≠ w.heap.size := Nat.ne_of_gt R2.out.lt
      have HG1 := Lib.hid (show b < w2.heap.size ∧ w.heap.size < w2.heap.size from ⟨K2.out.hb, R2.out.lt⟩)
      generalize w2.alloc (.cells #[.int .i64 kd, .string ⟨#[]⟩, .slice none 0 0, .slice none 0 0] 33) = w3 at *
      have hn0 := HG.out.2
      generalize hGE : w.heap.size = G at *
      generalize w2.heap.size = G1 at *
      obtain ⟨d0, d1, d2, d3⟩ := D3.out.cells
      go_wp2_with fail
      refine (pfail0 C b _ nv S K3.out 5).mono ?_
      rintro e w4 ⟨rfl, k4, a4⟩
      have K4 := Lib.hid k4
      have A4 := Lib.hid (A3.out.trans a4)
      have R4 := Lib.hid (R3.out.turn a4 hn0)
      clear k4 a4 d0 d1 d2 d3
      obtain ⟨r0, r1, r2, r3⟩ := R4.out.cells
      have f0 := R4.out.free 0
      have f1 := R4.out.free 1
      have f2 := R4.out.free 2
      have f3 := R4.out.free 3
      go_wp2_with fail
      obtain ⟨pf, bf, kf, of_, tf⟩ := blk_final K4.out R4.out HG.out.1 A4.out (by rw [hGE]; exact Nat.le_refl _) (.int .i64 0) (.string ⟨#[]⟩) (.slice none 0 0) (.slice none 0 0)
      show bodyPost _ _ _ _ _ (setBlk w4 G (.int .i64 0) (.string ⟨#[]⟩) (.slice none 0 0) (.slice none 0 0))
      generalize setBlk w4 G (.int .i64 0) (.string ⟨#[]⟩) (.slice none 0 0) (.slice none 0 0) = W at *
      clear r0 r1 r2 r3
      obtain ⟨r0, r1, r2, r3⟩ := bf.cells
      refine bodyPost_ret (v := .agg #[.int .i64 0, .string ⟨#[]⟩, .slice none 0 0, .slice none 0 0]) (by simp [results, Tryd.results22, go_sem, r0, r1, r2, r3]) rfl ?_
      exact ⟨_, _, nv, rfl, AT0.out _, QB0.out _ _, pf, tf⟩
    · skip
      go_enter Tryd.func22, Tryd.ntmps22
      go_upto_region 1 with fail
      have B1 := Lib.hid (show Below w.heap.size w (w.alloc (.cells #[.int .i64 0, .string ⟨#[]⟩, .slice none 0 0, .slice none 0 0] 33)) from (Below.refl _ _).alloc (Nat.le_refl _) _)
      have R1 := Lib.hid (BB.new w (.int .i64 0) (.string ⟨#[]⟩) (.slice none 0 0) (.slice none 0 0))
      have K1 := Lib.hid (H.out.below B1.out)
      have A1 := Lib.hid (Turn.below (b := b) (nv := nilv) B1.out)
      generalize w.alloc (.cells #[.int .i64 0, .string ⟨#[]⟩, .slice none 0 0, .slice none 0 0] 33) = w1 at *
      have HG := Lib.hid (show b < w.heap.size ∧ w.heap.size ≠ b from ⟨HB.out, Nat.ne_of_gt HB.out⟩)
      have HW := Lib.hid (Nat.le_refl w.heap.size)
      go_wp2_with fail
      refine (ppeek C b _ nv S K1.out t HT.out).mono ?_
      rintro e w2 ⟨pv, rfl, -, hb2⟩
      have K2 := Lib.hid (K1.out.below hb2)
      have A2 := Lib.hid (A1.out.trans (Turn.below (b := b) (nv := nilv) hb2))
      have R2 := Lib.hid (R1.out.below hb2)
      have q1 := fld1 w2 (.int .i64 t.kind) (.string t.text) (.int .i64 t.num) pv (.int .i64 t.at_)
      clear hb2
      go_wp2_with fail
      clear q1
      refine (pkind t.text _).mono ?_
      rintro e w2' ⟨rfl, rfl⟩
      go_upto_region 2 with fail
      generalize kindOf t.text = kd at *
      have B3 := Lib.hid (show Below w2.heap.size w2 (w2.alloc (.cells #[.int .i64 kd, .string ⟨#[]⟩, .slice none 0 0, .slice none 0 0] 33)) from (Below.refl _ _).alloc (Nat.le_refl _) _)
      have D3 := Lib.hid (BB.new w2 (.int .i64 kd) (.string ⟨#[]⟩) (.slice none 0 0) (.slice none 0 0))
      have K3 := Lib.hid (K2.out.below B3.out)
      have A3 := Lib.hid (A2.out.trans (Turn.below (b := b) (nv := nilv) B3.out))
      have R3 := Lib.hid (R2.out.below B3.out)
      have hn1 : w2.heap.size ≠ b := Nat.ne_of_gt K2.out.hb
      have hn2 : w2.heap.size ≠ w.heap.size := Nat.ne_of_gt R2.out.lt
      have HG1 := Lib.hid (show b < w2.heap.size ∧ w.heap.size < w2.heap.size from ⟨K2.out.hb, R2.out.lt⟩)
      generalize w2.alloc (.cells #[.int .i64 kd, .string ⟨#[]⟩, .slice none 0 0, .slice none 0 0] 33) = w3 at *
      have hn0 := HG.out.2
      generalize hGE : w.heap.size = G at *
      generalize w2.heap.size = G1 at *
      obtain ⟨d0, d1, d2, d3⟩ := D3.out.cells
      go_wp2_with fail
      refine (pfail0 C b _ nv S K3.out 5).mono ?_
      rintro e w4 ⟨rfl, k4, a4⟩
      have K4 := Lib.hid k4
      have A4 := Lib.hid (A3.out.trans a4)
      have R4 := Lib.hid (R3.out.turn a4 hn0)
      clear k4 a4 d0 d1 d2 d3
      obtain ⟨r0, r1, r2, r3⟩ := R4.out.cells
      have f0 := R4.out.free 0
      have f1 := R4.out.free 1
      have f2 := R4.out.free 2
      have f3 := R4.out.free 3
      go_wp2_with fail
      obtain ⟨pf, bf, kf, of_, tf⟩ := blk_final K4.out R4.out HG.out.1 A4.out (by rw [hGE]; exact Nat.le_refl _) (.int .i64 0) (.string ⟨#[]⟩) (.slice none 0 0) (.slice none 0 0)
      show bodyPost _ _ _ _ _ (setBlk w4 G (.int .i64 0) (.string ⟨#[]⟩) (.slice none 0 0) (.slice none 0 0))
      generalize setBlk w4 G (.int .i64 0) (.string ⟨#[]⟩) (.slice none 0 0) (.slice none 0 0) = W at *
      clear r0 r1 r2 r3
      obtain ⟨r0, r1, r2, r3⟩ := bf.cells
      refine bodyPost_ret (v := .agg #[.int .i64 0, .string ⟨#[]⟩, .slice none 0 0, .slice none 0 0]) (by simp [results, Tryd.results22, go_sem, r0, r1, r2, r3]) rfl ?_
      exact ⟨_, _, nv, rfl, AT0.out _, QB0.out _ _, pf, tf⟩
  rw [if_neg hk] at hr
  have hk0 : ¬ kindOf t.text = 0 := fun h => hk (.inl h)
  have hk5 : kindOf t.text = 5 → (!lvl) = false := fun h => by cases hl : (!lvl) with
    | false => rfl
    | true => exact absurd (.inr ⟨h, hl⟩) hk
  have g0 : (kindOf t.text == 0) = false := by simpa using hk0
  clear hk
  simp only [Option.bind_eq_some_iff, Prod.exists] at hr
  obtain ⟨S1, hs, lb, S2, hlb, S3, h3, hr⟩ := hr
  unfold stepS at hs
  split at hs
  case isFalse => simp at hs
  rename_i hlt
  simp only [Option.some.injEq] at hs
  subst hs
  have HLT := Lib.hid hlt
  have E3 := Lib.hid h3
  clear hlt h3
  by_cases h2 : kindOf t.text = 2
  · rw [if_pos h2] at hlb
    simp only [Option.some.injEq, Prod.mk.injEq] at hlb
    obtain ⟨rfl, rfl⟩ := hlb
    have h5 : ¬ kindOf t.text = 5 := by omega
    rw [if_neg h5] at hr
    simp only [Option.bind_eq_some_iff, Prod.exists] at hr
    obtain ⟨al, S4, h4, S5, h6, hr⟩ := hr
    simp only [Option.some.injEq, Prod.mk.injEq] at hr
    obtain ⟨rfl, rfl⟩ := hr
    have E4 := Lib.hid h4
    have E5 := Lib.hid h6
    have g2 : (kindOf t.text != 2) = false := by simpa using h2
    have g5 : (kindOf t.text == 5) = false := by simpa using h5
    clear hk0 hk5 h2 h5 h4 h6
    generalize hiD : (!lvl) = iD at *
    clear hiD
    go_enter Tryd.func22, Tryd.ntmps22
    go_upto_region 1 with fail
    have B1 := Lib.hid (show Below w.heap.size w (w.alloc (.cells #[.int .i64 0, .string ⟨#[]⟩, .slice none 0 0, .slice none 0 0] 33)) from (Below.refl _ _).alloc (Nat.le_refl _) _)
    have R1 := Lib.hid (BB.new w (.int .i64 0) (.string ⟨#[]⟩) (.slice none 0 0) (.slice none 0 0))
    have K1 := Lib.hid (H.out.below B1.out)
    have A1 := Lib.hid (Turn.below (b := b) (nv := nilv) B1.out)
    generalize w.alloc (.cells #[.int .i64 0, .string ⟨#[]⟩, .slice none 0 0, .slice none 0 0] 33) = w1 at *
    have HG := Lib.hid (show b < w.heap.size ∧ w.heap.size ≠ b from ⟨HB.out, Nat.ne_of_gt HB.out⟩)
    have HW := Lib.hid (Nat.le_refl w.heap.size)
    go_wp2_with fail
    refine (ppeek C b _ nv S K1.out t HT.out).mono ?_
    rintro e w2 ⟨pv, rfl, -, hb2⟩
    have K2 := Lib.hid (K1.out.below hb2)
    have A2 := Lib.hid (A1.out.trans (Turn.below (b := b) (nv := nilv) hb2))
    have R2 := Lib.hid (R1.out.below hb2)
    have q1 := fld1 w2 (.int .i64 t.kind) (.string t.text) (.int .i64 t.num) pv (.int .i64 t.at_)
    clear hb2
    go_wp2_with fail
    clear q1
    refine (pkind t.text _).mono ?_
    rintro e w2' ⟨rfl, rfl⟩
    go_upto_region 2 with fail
    generalize kindOf t.text = kd at *
    have B3 := Lib.hid (show Below w2.heap.size w2 (w2.alloc (.cells #[.int .i64 kd, .string ⟨#[]⟩, .slice none 0 0, .slice none 0 0] 33)) from (Below.refl _ _).alloc (Nat.le_refl _) _)
    have D3 := Lib.hid (BB.new w2 (.int .i64 kd) (.string ⟨#[]⟩) (.slice none 0 0) (.slice none 0 0))
    have K3 := Lib.hid (K2.out.below B3.out)
    have A3 := Lib.hid (A2.out.trans (Turn.below (b := b) (nv := nilv) B3.out))
    have R3 := Lib.hid (R2.out.below B3.out)
    have hn1 : w2.heap.size ≠ b := Nat.ne_of_gt K2.out.hb
    have hn2 : w2.heap.size ≠ w.heap.size := Nat.ne_of_gt R2.out.lt
    have HG1 := Lib.hid (show b < w2.heap.size ∧ w.heap.size < w2.heap.size from ⟨K2.out.hb, R2.out.lt⟩)
    generalize w2.alloc (.cells #[.int .i64 kd, .string ⟨#[]⟩, .slice none 0 0, .slice none 0 0] 33) = w3 at *
    have hn0 := HG.out.2
    generalize hGE : w.heap.size = G at *
    generalize w2.heap.size = G1 at *
    obtain ⟨d0, d1, d2, d3⟩ := D3.out.cells
    go_upto_region 5 with fail
    obtain ⟨-, c1, -, -, -⟩ := K3.out.cells
    have f1 := K3.out.free 1
    have K4 := Lib.hid (show Pr C (w3.setCell ⟨b, 1, none⟩ (.int .i64 ((S.at_ : Int) + 1))) b nv ⟨S.at_ + 1, S.f, S.ns, S.d⟩ from K3.out.setAt (S.at_ + 1) HLT.out)
    have A4 := Lib.hid (A3.out.trans (Turn.set b nilv w3 1 (.int .i64 ((S.at_ : Int) + 1))))
    have R4 := Lib.hid (R3.out.turn (Turn.set b nilv w3 1 (.int .i64 ((S.at_ : Int) + 1))) hn0)
    have D4 := Lib.hid (D3.out.turn (Turn.set b nilv w3 1 (.int .i64 ((S.at_ : Int) + 1))) hn1)
    go_upto_region 6 with fail
    generalize w3.setCell ⟨b, 1, none⟩ (.int .i64 ((S.at_ : Int) + 1)) = w4 at *
    clear c1 f1 d0 d1 d2 d3
    obtain ⟨d0, d1, d2, d3⟩ := D4.out.cells
    go_wp2_with fail
    refine (pneed0 C b _ nv _ K4.out ⟨#[123]⟩ _ E3.out).mono ?_
    rintro e w7 ⟨rfl, k7, a7⟩
    have K7 := Lib.hid k7
    have A7 := Lib.hid (A4.out.trans a7)
    have R7 := Lib.hid (R4.out.turn a7 hn0)
    have D7 := Lib.hid (D4.out.turn a7 hn1)
    clear k7 a7 d0 d1 d2 d3
    obtain ⟨d0, d1, d2, d3⟩ := D7.out.cells
    go_wp2_with fail
    refine (pattrs C b _ nv _ N M K7.out _ _ E4.out).mono ?_
    rintro e w8 ⟨av, nv8, rfl, hav, k8, a8⟩
    obtain ⟨aao, an, acap, rfl⟩ : ∃ ao m cap, av = .slice ao m cap := by obtain ⟨ys, o, -⟩ := hav; exact own_slice o
    have D8 := Lib.hid (D7.out.turn a8 hn1)
    have R8 := Lib.hid (R7.out.turn a8 hn0)
    have V9 := Lib.hid (hav.keep (put_keep D8.out 2 (.slice aao an acap)) (by decide) (by decide) (by decide))
    have K9 := Lib.hid (k8.put D8.out HG1.out.1 2 (.slice aao an acap))
    have A9 := Lib.hid ((A7.out.trans a8).put (by rw [hGE]; exact Nat.le_of_lt HG1.out.2) 2 (.slice aao an acap))
    have R9 := Lib.hid (R8.out.same (put_other (w := w8) (g := G1) 2 (.slice aao an acap) (Ne.symm hn2)))
    have D9 := Lib.hid (D8.out.put2 (.slice aao an acap))
    clear k8 a8 hav d0 d1 d2 d3
    obtain ⟨d0, d1, d2, d3⟩ := D8.out.cells
    have f2 := D8.out.free 2
    go_upto_region 12 with fail
    generalize w8.setCell ⟨G1, 2, none⟩ (.slice aao an acap) = w9 at *
    clear d0 d1 d2 d3 f2
    go_wp2_with fail
    refine (pneed0 C b _ nv8 _ K9.out ⟨#[125]⟩ _ E5.out).mono ?_
    rintro e w10 ⟨rfl, k10, a10⟩
    have K10 := Lib.hid k10
    have A10 := Lib.hid (A9.out.trans a10)
    have R10 := Lib.hid (R9.out.turn a10 hn0)
    have D10 := Lib.hid (D9.out.turn a10 hn1)
    have V10 := Lib.hid (V9.out.keep (P := fun _ => True) (Keep.turn a10) trivial trivial trivial)
    clear k10 a10
    obtain ⟨d0, d1, d2, d3⟩ := D10.out.cells
    obtain ⟨r0, r1, r2, r3⟩ := R10.out.cells
    have f0 := R10.out.free 0
    have f1 := R10.out.free 1
    have f2 := R10.out.free 2
    have f3 := R10.out.free 3
    go_wp2_with fail
    obtain ⟨pf, bf, kf, of_, tf⟩ := blk_final K10.out R10.out HG.out.1 A10.out (by rw [hGE]; exact Nat.le_refl _) (.int .i64 kd) (.string ⟨#[]⟩) (.slice aao an acap) (.slice none 0 0)
    show bodyPost _ _ _ _ _ (setBlk w10 G (.int .i64 kd) (.string ⟨#[]⟩) (.slice aao an acap) (.slice none 0 0))
    generalize setBlk w10 G (.int .i64 kd) (.string ⟨#[]⟩) (.slice aao an acap) (.slice none 0 0) = W at *
    clear r0 r1 r2 r3
    obtain ⟨r0, r1, r2, r3⟩ := bf.cells
    refine bodyPost_ret (v := .agg #[.int .i64 kd, .string ⟨#[]⟩, .slice aao an acap, .slice none 0 0]) (by simp [results, Tryd.results22, go_sem, r0, r1, r2, r3]) rfl ?_
    exact ⟨_, _, nv8, rfl, V10.out.keep kf (by decide) (by decide) (by decide), QB0.out _ _, pf, tf⟩
  rw [if_neg h2] at hlb
  have EL := Lib.hid hlb
  have g2 : (kindOf t.text != 2) = true := by simpa using h2
  clear hlb h2
  by_cases h5 : kindOf t.text = 5
  · rw [if_pos h5] at hr
    have hl : (!lvl) = false := hk5 h5
    have hlv : lvl = true := by cases lvl <;> simp_all
    simp only [Option.bind_eq_some_iff, Prod.exists] at hr
    obtain ⟨bs, S4, h4, S5, h6, hr⟩ := hr
    simp only [Option.some.injEq, Prod.mk.injEq] at hr
    obtain ⟨rfl, rfl⟩ := hr
    have E4 := Lib.hid h4
    have E5 := Lib.hid h6
    have g5 : (kindOf t.text == 5) = true := by simpa using h5
    subst hlv
    clear hk0 hk5 h5 h4 h6 hl
    have HI2 := Lib.hid (HI.out rfl)
    generalize hiD : (!true) = iD at *
    have hiD : iD = false := hiD.symm
    subst hiD
    go_enter Tryd.func22, Tryd.ntmps22
    go_upto_region 1 with fail
    have B1 := Lib.hid (show Below w.heap.size w (w.alloc (.cells #[.int .i64 0, .string ⟨#[]⟩, .slice none 0 0, .slice none 0 0] 33)) from (Below.refl _ _).alloc (Nat.le_refl _) _)
    have R1 := Lib.hid (BB.new w (.int .i64 0) (.string ⟨#[]⟩) (.slice none 0 0) (.slice none 0 0))
    have K1 := Lib.hid (H.out.below B1.out)
    have A1 := Lib.hid (Turn.below (b := b) (nv := nilv) B1.out)
    generalize w.alloc (.cells #[.int .i64 0, .string ⟨#[]⟩, .slice none 0 0, .slice none 0 0] 33) = w1 at *
    have HG := Lib.hid (show b < w.heap.size ∧ w.heap.size ≠ b from ⟨HB.out, Nat.ne_of_gt HB.out⟩)
    have HW := Lib.hid (Nat.le_refl w.heap.size)
    go_wp2_with fail
    refine (ppeek C b _ nv S K1.out t HT.out).mono ?_
    rintro e w2 ⟨pv, rfl, -, hb2⟩
    have K2 := Lib.hid (K1.out.below hb2)
    have A2 := Lib.hid (A1.out.trans (Turn.below (b := b) (nv := nilv) hb2))
    have R2 := Lib.hid (R1.out.below hb2)
    have q1 := fld1 w2 (.int .i64 t.kind) (.string t.text) (.int .i64 t.num) pv (.int .i64 t.at_)
    clear hb2
    go_wp2_with fail
    clear q1
    refine (pkind t.text _).mono ?_
    rintro e w2' ⟨rfl, rfl⟩
    go_upto_region 2 with fail
    generalize kindOf t.text = kd at *
    have B3 := Lib.hid (show Below w2.heap.size w2 (w2.alloc (.cells #[.int .i64 kd, .string ⟨#[]⟩, .slice none 0 0, .slice none 0 0] 33)) from (Below.refl _ _).alloc (Nat.le_refl _) _)
    have D3 := Lib.hid (BB.new w2 (.int .i64 kd) (.string ⟨#[]⟩) (.slice none 0 0) (.slice none 0 0))
    have K3 := Lib.hid (K2.out.below B3.out)
    have A3 := Lib.hid (A2.out.trans (Turn.below (b := b) (nv := nilv) B3.out))
    have R3 := Lib.hid (R2.out.below B3.out)
    have hn1 : w2.heap.size ≠ b := Nat.ne_of_gt K2.out.hb
    have hn2 : w2.heap.size ≠ w.heap.size := Nat.ne_of_gt R2.out.lt
    have HG1 := Lib.hid (show b < w2.heap.size ∧ w.heap.size < w2.heap.size from ⟨K2.out.hb, R2.out.lt⟩)
    generalize w2.alloc (.cells #[.int .i64 kd, .string ⟨#[]⟩, .slice none 0 0, .slice none 0 0] 33) = w3 at *
    have hn0 := HG.out.2
    generalize hGE : w.heap.size = G at *
    generalize w2.heap.size = G1 at *
    obtain ⟨d0, d1, d2, d3⟩ := D3.out.cells
    go_upto_region 5 with fail
    obtain ⟨-, c1, -, -, -⟩ := K3.out.cells
    have f1 := K3.out.free 1
    have K4 := Lib.hid (show Pr C (w3.setCell ⟨b, 1, none⟩ (.int .i64 ((S.at_ : Int) + 1))) b nv ⟨S.at_ + 1, S.f, S.ns, S.d⟩ from K3.out.setAt (S.at_ + 1) HLT.out)
    have A4 := Lib.hid (A3.out.trans (Turn.set b nilv w3 1 (.int .i64 ((S.at_ : Int) + 1))))
    have R4 := Lib.hid (R3.out.turn (Turn.set b nilv w3 1 (.int .i64 ((S.at_ : Int) + 1))) hn0)
    have D4 := Lib.hid (D3.out.turn (Turn.set b nilv w3 1 (.int .i64 ((S.at_ : Int) + 1))) hn1)
    go_upto_region 6 with fail
    generalize w3.setCell ⟨b, 1, none⟩ (.int .i64 ((S.at_ : Int) + 1)) = w4 at *
    clear c1 f1 d0 d1 d2 d3
    obtain ⟨d0, d1, d2, d3⟩ := D4.out.cells
    go_wp2_with fail
    refine (plabel C b _ nv _ K4.out _ _ EL.out).mono ?_
    rintro e w5 ⟨rfl, k5, a5⟩
    have D5 := Lib.hid (D4.out.turn a5 hn1)
    have R5 := Lib.hid (R4.out.turn a5 hn0)
    have K6 := Lib.hid (k5.put D5.out HG1.out.1 1 (.string lb))
    have A6 := Lib.hid ((A4.out.trans a5).put (by rw [hGE]; exact Nat.le_of_lt HG1.out.2) 1 (.string lb))
    have R6 := Lib.hid (R5.out.same (put_other (w := w5) (g := G1) 1 (.string lb) (Ne.symm hn2)))
    have D6 := Lib.hid (D5.out.put1 (.string lb))
    clear k5 a5 d0 d1 d2 d3
    obtain ⟨d0, d1, d2, d3⟩ := D5.out.cells
    have f1 := D5.out.free 1
    go_upto_region 8 with fail
    generalize w5.setCell ⟨G1, 1, none⟩ (.string lb) = w6 at *
    clear d0 d1 d2 d3 f1
    go_wp2_with fail
    refine (pneed0 C b _ nv _ K6.out ⟨#[123]⟩ _ E3.out).mono ?_
    rintro e w7 ⟨rfl, k7, a7⟩
    have K7 := Lib.hid k7
    have A7 := Lib.hid (A6.out.trans a7)
    have R7 := Lib.hid (R6.out.turn a7 hn0)
    have D7 := Lib.hid (D6.out.turn a7 hn1)
    clear k7 a7
    obtain ⟨d0, d1, d2, d3⟩ := D7.out.cells
    go_wp2_with fail
    refine (HI2.out _ nv _ _ _ K7.out E4.out).mono ?_
    rintro e w8 ⟨bv, nv8, rfl, hbi, hfr, k8, a8⟩
    obtain ⟨bao, bn, bcap, rfl⟩ : ∃ ao m cap, bv = .slice ao m cap := by obtain ⟨ys, o, -⟩ := hbi; exact own_slice o
    have D8 := Lib.hid (D7.out.turn a8 hn1)
    have R8 := Lib.hid (R7.out.turn a8 hn0)
    have LT7 := Lib.hid (show G < w7.heap.size ∧ G1 < w7.heap.size from ⟨R7.out.lt, D7.out.lt⟩)
    have Q8 : QB C w8 b true (fun g => g < w7.heap.size) (.slice bao bn bcap) bs := ⟨hbi, fun g hg h => absurd (hfr g hg) (by omega)⟩
    have Q9 := Lib.hid (Q8.keep' (put_keep D8.out 3 (.slice bao bn bcap)) (fun g _ _ h => put_other 3 _ (by have := LT7.out.2; omega)))
    have K9 := Lib.hid (k8.put D8.out HG1.out.1 3 (.slice bao bn bcap))
    have A9 := Lib.hid ((A7.out.trans a8).put (by rw [hGE]; exact Nat.le_of_lt HG1.out.2) 3 (.slice bao bn bcap))
    have R9 := Lib.hid (R8.out.same (put_other (w := w8) (g := G1) 3 (.slice bao bn bcap) (Ne.symm hn2)))
    have D9 := Lib.hid (D8.out.put3 (.slice bao bn bcap))
    clear k8 a8 hbi hfr Q8 d0 d1 d2 d3
    obtain ⟨d0, d1, d2, d3⟩ := D8.out.cells
    have f3 := D8.out.free 3
    go_upto_region 12 with fail
    generalize w8.setCell ⟨G1, 3, none⟩ (.slice bao bn bcap) = w9 at *
    clear d0 d1 d2 d3 f3
    go_wp2_with fail
    refine (pneed0 C b _ nv8 _ K9.out ⟨#[125]⟩ _ E5.out).mono ?_
    rintro e w10 ⟨rfl, k10, a10⟩
    have K10 := Lib.hid k10
    have A10 := Lib.hid (A9.out.trans a10)
    have R10 := Lib.hid (R9.out.turn a10 hn0)
    have D10 := Lib.hid (D9.out.turn a10 hn1)
    have Q10 := Lib.hid (Q9.out.keep' (Keep.turn a10) (fun g h1 h2 _ => a10.block g h2 (by omega) (by simp [nilv, Value.ownBlock])))
    clear k10 a10
    obtain ⟨d0, d1, d2, d3⟩ := D10.out.cells
    obtain ⟨r0, r1, r2, r3⟩ := R10.out.cells
    have f0 := R10.out.free 0
    have f1 := R10.out.free 1
    have f2 := R10.out.free 2
    have f3 := R10.out.free 3
    go_wp2_with fail
    obtain ⟨pf, bf, kf, of_, tf⟩ := blk_final K10.out R10.out HG.out.1 A10.out (by rw [hGE]; exact Nat.le_refl _) (.int .i64 kd) (.string lb) (.slice none 0 0) (.slice bao bn bcap)
    show bodyPost _ _ _ _ _ (setBlk w10 G (.int .i64 kd) (.string lb) (.slice none 0 0) (.slice bao bn bcap))
    generalize setBlk w10 G (.int .i64 kd) (.string lb) (.slice none 0 0) (.slice bao bn bcap) = W at *
    clear r0 r1 r2 r3
    obtain ⟨r0, r1, r2, r3⟩ := bf.cells
    refine bodyPost_ret (v := .agg #[.int .i64 kd, .string lb, .slice none 0 0, .slice bao bn bcap]) (by simp [results, Tryd.results22, go_sem, r0, r1, r2, r3]) rfl ?_
    refine ⟨_, _, nv8, rfl, AT0.out _, ?_, pf, tf⟩
    exact Q10.out.keep kf (fun g _ _ h => of_ g (by have := LT7.out.1; omega)) (fun g _ _ h h9 => h (by have := LT7.out.1; rw [hGE] at h9; omega))
  · rw [if_neg h5] at hr
    simp only [Option.bind_eq_some_iff, Prod.exists] at hr
    obtain ⟨al, S4, h4, S5, h6, hr⟩ := hr
    simp only [Option.some.injEq, Prod.mk.injEq] at hr
    obtain ⟨rfl, rfl⟩ := hr
    have E4 := Lib.hid h4
    have E5 := Lib.hid h6
    have g5 : (kindOf t.text == 5) = false := by simpa using h5
    clear hk0 hk5 h5 h4 h6
    generalize hiD : (!lvl) = iD at *
    clear hiD
    go_enter Tryd.func22, Tryd.ntmps22
    go_upto_region 1 with fail
    have B1 := Lib.hid (show Below w.heap.size w (w.alloc (.cells #[.int .i64 0, .string ⟨#[]⟩, .slice none 0 0, .slice none 0 0] 33)) from (Below.refl _ _).alloc (Nat.le_refl _) _)
    have R1 := Lib.hid (BB.new w (.int .i64 0) (.string ⟨#[]⟩) (.slice none 0 0) (.slice none 0 0))
    have K1 := Lib.hid (H.out.below B1.out)
    have A1 := Lib.hid (Turn.below (b := b) (nv := nilv) B1.out)
    generalize w.alloc (.cells #[.int .i64 0, .string ⟨#[]⟩, .slice none 0 0, .slice none 0 0] 33) = w1 at *
    have HG := Lib.hid (show b < w.heap.size ∧ w.heap.size ≠ b from ⟨HB.out, Nat.ne_of_gt HB.out⟩)
    have HW := Lib.hid (Nat.le_refl w.heap.size)
    go_wp2_with fail
    refine (ppeek C b _ nv S K1.out t HT.out).mono ?_
    rintro e w2 ⟨pv, rfl, -, hb2⟩
    have K2 := Lib.hid (K1.out.below hb2)
    have A2 := Lib.hid (A1.out.trans (Turn.below (b := b) (nv := nilv) hb2))
    have R2 := Lib.hid (R1.out.below hb2)
    have q1 := fld1 w2 (.int .i64 t.kind) (.string t.text) (.int .i64 t.num) pv (.int .i64 t.at_)
    clear hb2
    go_wp2_with fail
    clear q1
    refine (pkind t.text _).mono ?_
    rintro e w2' ⟨rfl, rfl⟩
    go_upto_region 2 with fail
    generalize kindOf t.text = kd at *
    have B3 := Lib.hid (show Below w2.heap.size w2 (w2.alloc (.cells #[.int .i64 kd, .string ⟨#[]⟩, .slice none 0 0, .slice none 0 0] 33)) from (Below.refl _ _).alloc (Nat.le_refl _) _)
    have D3 := Lib.hid (BB.new w2 (.int .i64 kd) (.string ⟨#[]⟩) (.slice none 0 0) (.slice none 0 0))
    have K3 := Lib.hid (K2.out.below B3.out)
    have A3 := Lib.hid (A2.out.trans (Turn.below (b := b) (nv := nilv) B3.out))
    have R3 := Lib.hid (R2.out.below B3.out)
    have hn1 : w2.heap.size ≠ b := Nat.ne_of_gt K2.out.hb
    have hn2 : w2.heap.size ≠ w.heap.size := Nat.ne_of_gt R2.out.lt
    have HG1 := Lib.hid (show b < w2.heap.size ∧ w.heap.size < w2.heap.size from ⟨K2.out.hb, R2.out.lt⟩)
    generalize w2.alloc (.cells #[.int .i64 kd, .string ⟨#[]⟩, .slice none 0 0, .slice none 0 0] 33) = w3 at *
    have hn0 := HG.out.2
    generalize hGE : w.heap.size = G at *
    generalize w2.heap.size = G1 at *
    obtain ⟨d0, d1, d2, d3⟩ := D3.out.cells
    go_upto_region 5 with fail
    obtain ⟨-, c1, -, -, -⟩ := K3.out.cells
    have f1 := K3.out.free 1
    have K4 := Lib.hid (show Pr C (w3.setCell ⟨b, 1, none⟩ (.int .i64 ((S.at_ : Int) + 1))) b nv ⟨S.at_ + 1, S.f, S.ns, S.d⟩ from K3.out.setAt (S.at_ + 1) HLT.out)
    have A4 := Lib.hid (A3.out.trans (Turn.set b nilv w3 1 (.int .i64 ((S.at_ : Int) + 1))))
    have R4 := Lib.hid (R3.out.turn (Turn.set b nilv w3 1 (.int .i64 ((S.at_ : Int) + 1))) hn0)
    have D4 := Lib.hid (D3.out.turn (Turn.set b nilv w3 1 (.int .i64 ((S.at_ : Int) + 1))) hn1)
    go_upto_region 6 with fail
    generalize w3.setCell ⟨b, 1, none⟩ (.int .i64 ((S.at_ : Int) + 1)) = w4 at *
    clear c1 f1 d0 d1 d2 d3
    obtain ⟨d0, d1, d2, d3⟩ := D4.out.cells
    go_wp2_with fail
    refine (plabel C b _ nv _ K4.out _ _ EL.out).mono ?_
    rintro e w5 ⟨rfl, k5, a5⟩
    have D5 := Lib.hid (D4.out.turn a5 hn1)
    have R5 := Lib.hid (R4.out.turn a5 hn0)
    have K6 := Lib.hid (k5.put D5.out HG1.out.1 1 (.string lb))
    have A6 := Lib.hid ((A4.out.trans a5).put (by rw [hGE]; exact Nat.le_of_lt HG1.out.2) 1 (.string lb))
    have R6 := Lib.hid (R5.out.same (put_other (w := w5) (g := G1) 1 (.string lb) (Ne.symm hn2)))
    have D6 := Lib.hid (D5.out.put1 (.string lb))
    clear k5 a5 d0 d1 d2 d3
    obtain ⟨d0, d1, d2, d3⟩ := D5.out.cells
    have f1 := D5.out.free 1
    go_upto_region 8 with fail
    generalize w5.setCell ⟨G1, 1, none⟩ (.string lb) = w6 at *
    clear d0 d1 d2 d3 f1
    go_wp2_with fail
    refine (pneed0 C b _ nv _ K6.out ⟨#[123]⟩ _ E3.out).mono ?_
    rintro e w7 ⟨rfl, k7, a7⟩
    have K7 := Lib.hid k7
    have A7 := Lib.hid (A6.out.trans a7)
    have R7 := Lib.hid (R6.out.turn a7 hn0)
    have D7 := Lib.hid (D6.out.turn a7 hn1)
    clear k7 a7
    obtain ⟨d0, d1, d2, d3⟩ := D7.out.cells
    go_wp2_with fail
    refine (pattrs C b _ nv _ N M K7.out _ _ E4.out).mono ?_
    rintro e w8 ⟨av, nv8, rfl, hav, k8, a8⟩
    obtain ⟨aao, an, acap, rfl⟩ : ∃ ao m cap, av = .slice ao m cap := by obtain ⟨ys, o, -⟩ := hav; exact own_slice o
    have D8 := Lib.hid (D7.out.turn a8 hn1)
    have R8 := Lib.hid (R7.out.turn a8 hn0)
    have V9 := Lib.hid (hav.keep (put_keep D8.out 2 (.slice aao an acap)) (by decide) (by decide) (by decide))
    have K9 := Lib.hid (k8.put D8.out HG1.out.1 2 (.slice aao an acap))
    have A9 := Lib.hid ((A7.out.trans a8).put (by rw [hGE]; exact Nat.le_of_lt HG1.out.2) 2 (.slice aao an acap))
    have R9 := Lib.hid (R8.out.same (put_other (w := w8) (g := G1) 2 (.slice aao an acap) (Ne.symm hn2)))
    have D9 := Lib.hid (D8.out.put2 (.slice aao an acap))
    clear k8 a8 hav d0 d1 d2 d3
    obtain ⟨d0, d1, d2, d3⟩ := D8.out.cells
    have f2 := D8.out.free 2
    go_upto_region 12 with fail
    generalize w8.setCell ⟨G1, 2, none⟩ (.slice aao an acap) = w9 at *
    clear d0 d1 d2 d3 f2
    go_wp2_with fail
    refine (pneed0 C b _ nv8 _ K9.out ⟨#[125]⟩ _ E5.out).mono ?_
    rintro e w10 ⟨rfl, k10, a10⟩
    have K10 := Lib.hid k10
    have A10 := Lib.hid (A9.out.trans a10)
    have R10 := Lib.hid (R9.out.turn a10 hn0)
    have D10 := Lib.hid (D9.out.turn a10 hn1)
    have V10 := Lib.hid (V9.out.keep (P := fun _ => True) (Keep.turn a10) trivial trivial trivial)
    clear k10 a10
    obtain ⟨d0, d1, d2, d3⟩ := D10.out.cells
    obtain ⟨r0, r1, r2, r3⟩ := R10.out.cells
    have f0 := R10.out.free 0
    have f1 := R10.out.free 1
    have f2 := R10.out.free 2
    have f3 := R10.out.free 3
    go_wp2_with fail
    obtain ⟨pf, bf, kf, of_, tf⟩ := blk_final K10.out R10.out HG.out.1 A10.out (by rw [hGE]; exact Nat.le_refl _) (.int .i64 kd) (.string lb) (.slice aao an acap) (.slice none 0 0)
    show bodyPost _ _ _ _ _ (setBlk w10 G (.int .i64 kd) (.string lb) (.slice aao an acap) (.slice none 0 0))
    generalize setBlk w10 G (.int .i64 kd) (.string lb) (.slice aao an acap) (.slice none 0 0) = W at *
    clear r0 r1 r2 r3
    obtain ⟨r0, r1, r2, r3⟩ := bf.cells
    refine bodyPost_ret (v := .agg #[.int .i64 kd, .string lb, .slice aao an acap, .slice none 0 0]) (by simp [results, Tryd.results22, go_sem, r0, r1, r2, r3]) rfl ?_
    exact ⟨_, _, nv8, rfl, V10.out.keep kf (by decide) (by decide) (by decide), QB0.out _ _, pf, tf⟩
end
end Go.Proofs.YtkbbhgipajhbnaaDoor
