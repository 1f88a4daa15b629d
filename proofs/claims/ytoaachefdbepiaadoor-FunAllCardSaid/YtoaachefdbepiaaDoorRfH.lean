/- The document's counted; its List of too many. -/
import Derived.Test.YtoaachefdbepiaaDoorValMh
import Derived.Test.YtoaachefdbepiaaDoorRfC
import Derived.Test.YtoaachefdbepiaaDoorFunH
import Derived.Test.YtoaachefdbepiaaDoorValMb
import Derived.Lib.ItoaNum
import Derived.Lib.SmallJoins
import Derived.Test.YtoaachefdbepiaaDoorFunJ
namespace Go.Proofs.YtoaachefdbepiaaDoor
open Go.RowKit
set_option linter.unusedVariables false
set_option linter.unusedSimpArgs false

/-- A list that the document answers, in blocks of which P holds. -/
def DocP (P : Nat → Prop) (D : Nat) (l : List VL) (w : World) (e : Ending) (w' : World) : Prop := ∃ lo lc, e = .returned (.agg #[.int .i64 4, .int .i64 0, .string ⟨#[]⟩, .slice lo l.length lc, .int .i64 0]) ∧ RowIn w' P D l (.slice lo l.length lc) ∧ Below w.heap.size w w'
theorem row_src_in {w : World} {P : Nat → Prop} {D : Nat} {l : List VL} {ao : Option Addr} {n cap : Nat} (h : RowIn w P D l (.slice ao n cap)) {ps : List (VL × Value)} (h1 : ps.map (·.1) = l)
    (h5 : ∀ ad, ao = some ad → ∀ j u, (rowCells ps)[j]? = some u → w.cell? (ad.add j) = some u) : ∀ p ∈ ps, RowIn w P (D - 1) p.1.kids p.2 := by
  intro p hp
  obtain ⟨i, hi, hpe⟩ := List.mem_iff_getElem.1 hp
  have hpi : ps[i]? = some p := by rw [List.getElem?_eq_getElem hi, hpe]
  have hli : l[i]? = some p.1 := by rw [← h1, List.getElem?_map, hpi]; rfl
  cases D with
  | zero => obtain ⟨rfl, -⟩ := h; simp at hli
  | succ D =>
    obtain ⟨-, ao', cap', e, hc⟩ := h
    simp only [Value.slice.injEq] at e
    obtain ⟨rfl, -, -⟩ := e
    obtain ⟨g, o, lu, rfl, -, c0, c1, c2, c3, hr⟩ := hc i p.1 hli
    have := h5 _ rfl _ _ (rowCells_at ps i 3 p p.2 hpi (by omega) rfl)
    have ha : (⟨g, o, none⟩ : Addr).add (i * 4 + 3) = ⟨g, o + (i * 4 + 3), none⟩ := by unfold Addr.add; split <;> simp_all
    rw [ha, show o + (i * 4 + 3) = o + i * 4 + 3 by omega, c3] at this
    cases this
    exact hr
section
variable (w : World)
set_option maxRecDepth 20000
set_option maxHeartbeats 4000000 in
theorem rlist_in (P : Nat → Prop) (D : Nat) (l : List VL) (lv : Value) (hin : RowIn w P D l lv) (hP : ∀ b, P b → b < w.heap.size) (hl : l.length ≤ 64) (hd : deepI 64 (vlist l) ≤ 64) : Calls Tryd.prog 23 #[lv] w (DocP (fun b => P b ∨ w.heap.size < b) (D - 1 + 1) l w) := by
  have h := hin.rd
  have HP := Lib.hid hP
  have HD := Lib.hid hd
  obtain ⟨i0, hi0, hz0, hz1, hz2⟩ := info_parts info_val
  obtain ⟨lao, lcap, rfl⟩ := h.shape
  obtain ⟨qs, hq1, hq2, hq3, hq4, hq5⟩ := row_src h
  have QI := Lib.hid (row_src_in hin hq1 hq5)
  have Q1 := Lib.hid hq1
  have Q2 := Lib.hid hq2
  have Q3 := Lib.hid hq3
  have Q4 := Lib.hid hq4
  have Q5 := Lib.hid hq5
  clear h hin hP hd hq1 hq2 hq3 hq4 hq5
  have OW := Lib.hid (own_new' w (w.alloc (.cells #[.int .i64 0, .int .i64 0, .string ⟨#[]⟩, .slice none 0 0, .int .i64 0] 32)) (w.heap.size + 1) (by simp))
  rw [show (w.alloc (.cells #[.int .i64 0, .int .i64 0, .string ⟨#[]⟩, .slice none 0 0, .int .i64 0] 32)).heap.size = w.heap.size + 1 by simp] at OW
  have BW := Lib.hid (show Below w.heap.size w _ from below_al (below_al (Below.refl w.heap.size w) (.cells #[.int .i64 0, .int .i64 0, .string ⟨#[]⟩, .slice none 0 0, .int .i64 0] 32)) (.cells #[] 26))
  have GB := Lib.hid (show ((w.alloc (.cells #[.int .i64 0, .int .i64 0, .string ⟨#[]⟩, .slice none 0 0, .int .i64 0] 32)).alloc (.cells #[] 26)).heap[w.heap.size]? = some (.cells #[.int .i64 0, .int .i64 0, .string ⟨#[]⟩, .slice none 0 0, .int .i64 0] 32 (0, 0)) from (Below.block (below_al (Below.refl _ _) _) _ (by simp)).trans (heap_alloc_new w _))
  go_enter Tryd.func23, Tryd.ntmps23
  go_wp2_with (at_builtin; refine wpList_append_any _ rfl _ _ 22 rfl (w.heap.size + 1) 26 i0 _ 4 56 Tryd.underlying22 hi0 hz0 hz1 hz2 rfl (by decide) (.slice (some ⟨w.heap.size + 1, 0, none⟩) 0 0) 0 [] rfl OW.out lao l.length lcap (rowCells qs) rfl ?a1 Q4.out ?a2 ?b1 ?c1 ?d1 ?e1 ?_)
  case a1 => rw [rowCells_len, Q2.out]
  case a2 => exact fun ad had j u hj => hold BW.out (Q5.out ad had j u hj)
  case b1 => exact Q3.out.one
  case c1 => unfold maxLen; omega
  case d1 => omega
  case e1 => simp
  intro v' w6 hown hgrow
  have B6 := Lib.hid (below_grown' BW.out hgrow (fun k hk => by have h := (World.ownsRow.lt OW.out k hk).1; omega))
  have G6 := Lib.hid ((hgrow.block _ (by simp; omega) (fun e => by have h := (World.ownsRow.lt OW.out _ e.symm).1; omega)).trans GB.out)
  have RD := Lib.hid (row_of_own (D := D - 1) (by rw [Q2.out]; exact hown) (by rw [Q2.out]; unfold maxLen; omega) (Q3.out.below B6.out))
  have RI := Lib.hid (rowIn_of_own (P := fun b => P b ∨ w.heap.size < b) (D := D - 1) (by rw [Q2.out]; exact hown) (by rw [Q2.out]; unfold maxLen; omega) (fun p hp => RowIn.keep (Q := P) (fun _ h => h) (fun b o z h hz => (B6.out.cell (p := ⟨b, o, none⟩) (HP.out b h)).trans hz) (QI.out p hp)) (fun b h => .inl h) (fun b h => .inr (by omega)))
  rw [Q1.out] at RD RI
  obtain ⟨vo, vc, rfl⟩ := own_len hown
  clear hown hgrow
  have DP := Lib.hid (fun W (hW : Below w6.heap.size w6 W) => (rdeep 64 (Nat.le_refl _)).call (D - 1 + 1) (vlist l) (.slice vo l.length vc) W (RD.out.below hW))
  have hdd := HD.out
  generalize deepI 64 (vlist l) = dd at *
  have hl2 : ¬ (64 : Int) < (l.length : Int) := by omega
  go_wp2_with fail
  refine (DP.out _ (below_al (Below.refl _ _) _)).mono ?_
  rintro e w7 ⟨rfl, hb7⟩
  have B7 := Lib.hid (below_tr (below_al (Below.refl w6.heap.size w6) (.cells #[.int .i64 4, .int .i64 0, .string ⟨#[]⟩, .slice vo l.length vc] 26)) hb7)
  have X := Lib.hid ((VBlk.new w6 (vlist l) (.slice vo l.length vc)).below hb7)
  obtain ⟨x0, x1, x2, x3⟩ := X.out.cells
  have R7 := Lib.hid (RD.out.below B7.out)
  have G7 := Lib.hid (show GBlk w7 w.heap.size from (B7.out.block _ (Array.getElem?_eq_some_iff.1 G6.out).1).trans G6.out)
  obtain ⟨⟨r0, r1, r2, r3, r4⟩, ⟨f0, f1, f2, f3, f4⟩, rl⟩ := G7.out.full
  replace x0 : w7.cell? ⟨w6.heap.size, 0, none⟩ = some (.int .i64 4) := x0
  replace x1 : w7.cell? ⟨w6.heap.size, 1, none⟩ = some (.int .i64 0) := x1
  replace x2 : w7.cell? ⟨w6.heap.size, 2, none⟩ = some (.string ⟨#[]⟩) := x2
  have hw6 := X.out.lt
  have RZ := Lib.hid (RowIn.keep (Q := fun b => P b ∨ w.heap.size < b) (fun _ h => h.1) (fun b o z h hz => (B7.out.cell (p := ⟨b, o, none⟩) h.2).trans hz) (rowIn_lt RI.out))
  have BZ := Lib.hid (below_tr B6.out B7.out)
  clear hb7 R7
  have hdd2 : ¬ 64 < dd := by omega
  go_wp2_with fail
  refine bodyPost_ret (v := .agg #[.int .i64 4, .int .i64 0, .string ⟨#[]⟩, .slice vo l.length vc, .int .i64 0]) (by simp [results, Tryd.results23, go_sem, r0, r1, r2, r3, r4]) rfl ⟨vo, vc, rfl, ?_, ?_⟩
  · exact set5_in RZ.out (fun h => by
      rcases h with h | h
      · exact Nat.lt_irrefl _ (HP.out _ h)
      · exact Nat.lt_irrefl _ h) _ _ _ _ _
  · exact below_set5 BZ.out (Nat.le_refl _) _ _ _ _ _
end
end Go.Proofs.YtoaachefdbepiaaDoor
namespace Go.Proofs.YtoaachefdbepiaaDoor
open Go.RowKit
set_option linter.unusedVariables false
set_option linter.unusedSimpArgs false

/-- The block of a document's answer without a list. -/
def GotB (w : World) (g : Nat) (k n : Int) (s : ByteArray) (c : Int) : Prop := w.heap[g]? = some (.cells #[.int .i64 k, .int .i64 n, .string s, .slice none 0 0, .int .i64 c] 32 (0, 0))
theorem GotB.full {w : World} {g : Nat} {k n : Int} {s : ByteArray} {c : Int} (h : GotB w g k n s c) :
    (w.cell? ⟨g, 0, none⟩ = some (.int .i64 k) ∧ w.cell? ⟨g, 1, none⟩ = some (.int .i64 n) ∧ w.cell? ⟨g, 2, none⟩ = some (.string s) ∧ w.cell? ⟨g, 3, none⟩ = some (.slice none 0 0) ∧ w.cell? ⟨g, 4, none⟩ = some (.int .i64 c)) ∧
    (w.frozen? ⟨g, 0, none⟩ = false ∧ w.frozen? ⟨g, 1, none⟩ = false ∧ w.frozen? ⟨g, 2, none⟩ = false ∧ w.frozen? ⟨g, 3, none⟩ = false ∧ w.frozen? ⟨g, 4, none⟩ = false) ∧ g < w.heap.size := by
  have h : w.heap[g]? = some (.cells #[.int .i64 k, .int .i64 n, .string s, .slice none 0 0, .int .i64 c] 32 (0, 0)) := h
  have f : ∀ o, w.frozen? ⟨g, o, none⟩ = false := fun o => by simp [World.frozen?, h]
  exact ⟨⟨cell_of_row w g 0 _ _ _ h, cell_of_row w g 1 _ _ _ h, cell_of_row w g 2 _ _ _ h, cell_of_row w g 3 _ _ _ h, cell_of_row w g 4 _ _ _ h⟩, ⟨f 0, f 1, f 2, f 3, f 4⟩, (Array.getElem?_eq_some_iff.1 h).1⟩
theorem GotB.below {w w' : World} {g : Nat} {k n : Int} {s : ByteArray} {c : Int} (h : GotB w g k n s c) (hb : Below w.heap.size w w') : GotB w' g k n s c := (hb.block g h.full.2.2).trans h
theorem GotB.set {w : World} {g : Nat} {k n : Int} {s : ByteArray} {c : Int} (h : GotB w g k n s c) (k' n' : Int) (s' : ByteArray) (c' : Int) :
    GotB (((((w.setCell ⟨g, 0, none⟩ (.int .i64 k')).setCell ⟨g, 1, none⟩ (.int .i64 n')).setCell ⟨g, 2, none⟩ (.string s')).setCell ⟨g, 3, none⟩ (.slice none 0 0)).setCell ⟨g, 4, none⟩ (.int .i64 c')) g k' n' s' c' := by
  have h0 := heap_setCell_same w g 0 _ _ (.int .i64 k') h
  have h1 := heap_setCell_same _ g 1 _ _ (.int .i64 n') h0
  have h2 := heap_setCell_same _ g 2 _ _ (.string s') h1
  have h3 := heap_setCell_same _ g 3 _ _ (.slice none 0 0) h2
  exact heap_setCell_same _ g 4 _ _ (.int .i64 c') h3
theorem GotB.far {w : World} {g f : Nat} {k n : Int} {s : ByteArray} {c : Int} (h : GotB w g k n s c) (hf : g ≠ f) (a b d e i : Value) : GotB (((((w.setCell ⟨f, 0, none⟩ a).setCell ⟨f, 1, none⟩ b).setCell ⟨f, 2, none⟩ d).setCell ⟨f, 3, none⟩ e).setCell ⟨f, 4, none⟩ i) g k n s c := by
  unfold GotB
  rw [Below.heap_setCell _ _ _ _ hf, Below.heap_setCell _ _ _ _ hf, Below.heap_setCell _ _ _ _ hf, Below.heap_setCell _ _ _ _ hf, Below.heap_setCell _ _ _ _ hf]
  exact h
section
variable (w : World)
set_option maxHeartbeats 4000000 in
set_option maxRecDepth 20000 in
theorem radded (D : Nat) (l : List VL) (lv : Value) (h : RowRd w D l lv) (hi64 : ∀ v ∈ l, I64 v.num) : Calls Tryd.prog 21 #[lv] w (Doc (sumR 0 (l.map VL.num)) w) := by
  have H := Lib.hid h
  have HI64 := Lib.hid hi64
  have hl := h.len
  unfold maxLen at hl
  obtain ⟨ao, cap, rfl⟩ := h.shape
  clear h hi64
  go_enter Tryd.func21, Tryd.ntmps21
  go_wp2_with fail
  refine (rnum _ _).mono ?_
  rintro e w1 ⟨rfl, hb⟩
  have RG := Lib.hid (show GotB w1 w.heap.size 0 0 ⟨#[]⟩ 0 from (hb.block _ (by simp)).trans (heap_alloc_new w _))
  have B1 := Lib.hid (below_tr (below_al (Below.refl _ _) _) hb)
  clear hb
  go_wp2_with fail
  have X0 := Lib.hid (show GotB (w1.alloc (.cells #[.int .i64 1, .int .i64 0, .string ⟨#[]⟩, .slice none 0 0, .int .i64 0] 32)) w1.heap.size 1 0 ⟨#[]⟩ 0 from heap_alloc_new w1 _)
  have R0 := Lib.hid (RG.out.below (below_al (Below.refl w1.heap.size w1) (.cells #[.int .i64 1, .int .i64 0, .string ⟨#[]⟩, .slice none 0 0, .int .i64 0] 32)))
  have B2 := Lib.hid (below_al B1.out (.cells #[.int .i64 1, .int .i64 0, .string ⟨#[]⟩, .slice none 0 0, .int .i64 0] 32))
  have GL := Lib.hid (show w.heap.size < w1.heap.size from RG.out.full.2.2)
  simp only [vnum, VL.kind, VL.num, VL.text]
  generalize w1.alloc (.cells #[.int .i64 1, .int .i64 0, .string ⟨#[]⟩, .slice none 0 0, .int .i64 0] 32) = wa at *
  generalize w1.heap.size = GX at *
  clear RG B1
  go_loopg [4] l.length (fun m iv wr => ∃ (i : Nat) (k n c : Int), iv = .int .i64 i ∧ l.length - i ≤ m ∧ i ≤ l.length ∧ Below w.heap.size w wr ∧ GotB wr GX k n ⟨#[]⟩ c ∧ GotB wr w.heap.size 0 0 ⟨#[]⟩ 0 ∧ Hid ((c = 0 ∧ k = 1 ∧ I64 n ∧ sumR n ((l.map VL.num).drop i) = sumR 0 (l.map VL.num)) ∨ (c = 8 ∧ k = 0 ∧ n = 0 ∧ sumR 0 (l.map VL.num) = (vz, 8))))
  case atStart => exact ⟨0, 1, 0, 0, rfl, Nat.le_refl _, Nat.zero_le _, B2.out, X0.out, R0.out, Lib.hid (.inl ⟨rfl, rfl, by unfold I64; omega, rfl⟩)⟩
  case round =>
    obtain ⟨i, k, n, c, rfl, hm, hi, hb, hx, hr, ST⟩ := hrel
    have HM := Lib.hid hm
    have BR := Lib.hid hb
    have XR := Lib.hid hx
    have RR := Lib.hid hr
    clear hm hb hx hr
    rcases ST.out with ⟨rfl, rfl, hn, hs⟩ | ⟨rfl, rfl, rfl, hs⟩
    · have HS := Lib.hid hs
      have HN := Lib.hid hn
      clear hs hn ST
      obtain ⟨⟨x0, x1, x2, x3, x4⟩, ⟨y0, y1, y2, y3, y4⟩, xl⟩ := XR.out.full
      by_cases hil : i < l.length
      · obtain ⟨u, hu⟩ : ∃ u, l[i]? = some u := ⟨_, List.getElem?_eq_getElem hil⟩
        obtain ⟨ao2, cap2, e2, hat⟩ := (H.out.below BR.out).at
        simp only [Value.slice.injEq, true_and] at e2
        obtain ⟨rfl, rfl⟩ := e2
        obtain ⟨g2, o2, lu2, rfl, -, k0, k1, k2, k3, -⟩ := hat i u hu
        have kl := World.block_lt_of_cell? _ _ k1
        simp only at kl
        have UI := Lib.hid (HI64.out u (List.mem_of_getElem? hu))
        have DR := Lib.hid (show (l.map VL.num).drop i = u.num :: (l.map VL.num).drop (i + 1) by
          rw [List.drop_eq_getElem_cons (by rw [List.length_map]; exact hil)]
          congr 1
          obtain ⟨h1, h2⟩ := List.getElem?_eq_some_iff.1 hu
          simp [h2])
        clear hat hu k0 k2 k3
        rcases fit_cases (n + u.num) with ⟨hf, hin⟩ | ⟨hf, hout⟩
        · have SN := Lib.hid (show sumR (n + u.num) ((l.map VL.num).drop (i + 1)) = sumR 0 (l.map VL.num) by
            rw [← HS.out, DR.out]; show _ = (if _ then _ else _); rw [hf, if_pos rfl])
          have CK := Lib.hid (fun W => rk_add_in W n u.num HN.out UI.out hin)
          have IN := Lib.hid hin
          clear hf hin
          generalize n + u.num = t at *
          go_wp2_with fail
          go_region_with (first
            | (go_at_call 41; (with_reducible refine (CK.out _).mono ?_); rintro e w3 ⟨rfl, hb⟩; have B3 := Lib.hid (below_tr BR.out (below_tr (below_drew (Below.refl _ _)) hb)); have X3 := Lib.hid (XR.out.below (below_tr (below_drew (Below.refl _ _)) hb)); have R3 := Lib.hid (RR.out.below (below_tr (below_drew (Below.refl _ _)) hb)); clear hb; obtain ⟨⟨z0, z1, z2, z3, z4⟩, ⟨q0, q1, q2, q3, q4⟩, zl⟩ := X3.out.full))
          all_goals go_wp2_with fail
          all_goals simp only [vnum, vz, VL.kind, VL.num, VL.text]
          all_goals (
            have X7 := Lib.hid (X3.out.set 1 t ⟨#[]⟩ 0)
            have R7 := Lib.hid (R3.out.far (Nat.ne_of_lt GL.out) (.int .i64 1) (.int .i64 t) (.string ⟨#[]⟩) (.slice none 0 0) (.int .i64 0))
            have B7 := Lib.hid (below_set5 (g := GX) B3.out (Nat.le_of_lt GL.out) (.int .i64 1) (.int .i64 t) (.string ⟨#[]⟩) (.slice none 0 0) (.int .i64 0)))
          all_goals go_roundg (l.length - (i + 1))
          all_goals try (case rel => exact ⟨i + 1, 1, t, 0, rfl, Nat.le_refl _, hil, B7.out, X7.out, R7.out, Lib.hid (.inl ⟨rfl, rfl, IN.out, SN.out⟩)⟩)
          all_goals (case measure => have := HM.out; omega)
        · have SN := Lib.hid (show sumR 0 (l.map VL.num) = (vz, 8) by
            rw [← HS.out, DR.out]; show (if _ then _ else _) = _; rw [hf, if_neg (by decide)])
          have CK := Lib.hid (fun W => rk_add_out W n u.num HN.out UI.out hout)
          clear hf hout
          go_wp2_with fail
          go_region_with (first
            | (go_at_call 41; (with_reducible refine (CK.out _).mono ?_); rintro e w3 ⟨rfl, hb⟩; have B3 := Lib.hid (below_tr BR.out (below_tr (below_drew (Below.refl _ _)) hb)); have X3 := Lib.hid (XR.out.below (below_tr (below_drew (Below.refl _ _)) hb)); have R3 := Lib.hid (RR.out.below (below_tr (below_drew (Below.refl _ _)) hb)); clear hb; obtain ⟨⟨z0, z1, z2, z3, z4⟩, ⟨q0, q1, q2, q3, q4⟩, zl⟩ := X3.out.full))
          all_goals go_wp2_with fail
          all_goals simp only [vnum, vz, VL.kind, VL.num, VL.text]
          all_goals (
            have X7 := Lib.hid (X3.out.set 0 0 ⟨#[]⟩ 8)
            have R7 := Lib.hid (R3.out.far (Nat.ne_of_lt GL.out) (.int .i64 0) (.int .i64 0) (.string ⟨#[]⟩) (.slice none 0 0) (.int .i64 8))
            have B7 := Lib.hid (below_set5 (g := GX) B3.out (Nat.le_of_lt GL.out) (.int .i64 0) (.int .i64 0) (.string ⟨#[]⟩) (.slice none 0 0) (.int .i64 8)))
          all_goals go_roundg (l.length - (i + 1))
          all_goals try (case rel => exact ⟨i + 1, 0, 0, 8, rfl, Nat.le_refl _, hil, B7.out, X7.out, R7.out, Lib.hid (.inr ⟨rfl, rfl, rfl, SN.out⟩)⟩)
          all_goals (case measure => have := HM.out; omega)
      · have SN := Lib.hid (show sumR 0 (l.map VL.num) = (vnum n, 0) by
          rw [← HS.out, List.drop_eq_nil_of_le (by rw [List.length_map]; omega)]; rfl)
        obtain ⟨⟨a0, a1, a2, a3, a4⟩, ⟨b0, b1, b2, b3, b4⟩, al⟩ := (show GotB wr w.heap.size 0 0 ⟨#[]⟩ 0 from RR.out).full
        go_wp2_with fail
        exact bodyPost_ret (v := .agg #[.int .i64 1, .int .i64 n, .string ⟨#[]⟩, .slice none 0 0, .int .i64 0]) (by simp [results, Tryd.results21, go_sem, a0, a1, a2, a3, a4]) rfl (by rw [SN.out]; exact ⟨rfl, below_set5 BR.out (Nat.le_refl _) _ _ _ _ _⟩)
    · have SN := Lib.hid hs
      clear hs ST
      obtain ⟨⟨x0, x1, x2, x3, x4⟩, ⟨y0, y1, y2, y3, y4⟩, xl⟩ := XR.out.full
      obtain ⟨⟨a0, a1, a2, a3, a4⟩, ⟨b0, b1, b2, b3, b4⟩, al⟩ := (show GotB wr w.heap.size 0 0 ⟨#[]⟩ 0 from RR.out).full
      by_cases hil : i < l.length
      · go_wp2_with fail
        exact bodyPost_ret (v := .agg #[.int .i64 0, .int .i64 0, .string ⟨#[]⟩, .slice none 0 0, .int .i64 8]) (by simp [results, Tryd.results21, go_sem, a0, a1, a2, a3, a4]) rfl (by rw [SN.out]; exact ⟨rfl, below_set5 BR.out (Nat.le_refl _) _ _ _ _ _⟩)
      · go_wp2_with fail
        exact bodyPost_ret (v := .agg #[.int .i64 0, .int .i64 0, .string ⟨#[]⟩, .slice none 0 0, .int .i64 8]) (by simp [results, Tryd.results21, go_sem, a0, a1, a2, a3, a4]) rfl (by rw [SN.out]; exact ⟨rfl, below_set5 BR.out (Nat.le_refl _) _ _ _ _ _⟩)
end
end Go.Proofs.YtoaachefdbepiaaDoor
namespace Go.Proofs.YtoaachefdbepiaaDoor
open Go.RowKit
set_option linter.unusedVariables false
set_option linter.unusedSimpArgs false

section
variable (w : World)
set_option maxHeartbeats 4000000 in
set_option maxRecDepth 20000 in
theorem rjoin (v : Value) (xs : List ByteArray) (h : StrsRd w v xs) (hz : ∀ x ∈ xs, x.size ≤ 10000) : Calls Tryd.prog 29 #[v] w (Doc (joinR xs) w) := by
  have H := Lib.hid h
  have HZ := Lib.hid hz
  have hl := (show xs.length ≤ maxLen from by obtain ⟨_, _, _, _, h2, _⟩ := h; exact h2)
  unfold maxLen at hl
  obtain ⟨ao, cap, rfl⟩ := h.shape
  clear h hz
  go_enter Tryd.func29, Tryd.ntmps29
  go_wp2_with fail
  have B0 := Lib.hid (below_al (Below.refl w.heap.size w) (.cells #[.int .i64 0, .int .i64 0, .string ⟨#[]⟩, .slice none 0 0, .int .i64 0] 32))
  have GB := Lib.hid (show GotB (w.alloc (.cells #[.int .i64 0, .int .i64 0, .string ⟨#[]⟩, .slice none 0 0, .int .i64 0] 32)) w.heap.size 0 0 ⟨#[]⟩ 0 from heap_alloc_new w _)
  generalize w.alloc (.cells #[.int .i64 0, .int .i64 0, .string ⟨#[]⟩, .slice none 0 0, .int .i64 0] 32) = wa at *
  have HA := Lib.hid (H.out.below B0.out)
  go_loopg [3, 4] xs.length (fun m sv iv wr => ∃ (i : Nat), iv = .int .i64 i ∧ sv = .string (catB (xs.take i)) ∧ xs.length - i ≤ m ∧ i ≤ xs.length ∧ wa = wr)
  case atStart => exact ⟨0, rfl, rfl, Nat.le_refl _, Nat.zero_le _, rfl⟩
  case round =>
    obtain ⟨i, rfl, rfl, hm, hi, rfl⟩ := hrel
    have HM := Lib.hid hm
    have CS := Lib.hid (catB_size (xs.take i))
    clear hm
    obtain ⟨⟨a0, a1, a2, a3, a4⟩, ⟨b0, b1, b2, b3, b4⟩, al⟩ := GB.out.full
    by_cases hil : i < xs.length
    · obtain ⟨x, hx⟩ : ∃ x, xs[i]? = some x := ⟨_, List.getElem?_eq_getElem hil⟩
      obtain ⟨ao2, cap2, e2, -, -, hat⟩ := HA.out
      simp only [Value.slice.injEq, true_and] at e2
      obtain ⟨rfl, rfl⟩ := e2
      obtain ⟨g2, o2, rfl, k0⟩ := hat i x hx
      have hxs := HZ.out x (List.mem_of_getElem? hx)
      have NX := Lib.hid (catB_succ hx)
      have JT := Lib.hid (jsum_take xs i)
      clear hat hx
      by_cases h4 : (catB (xs.take i)).size ≤ 400
      · have h5 : ((catB (xs.take i)).size : Int) ≤ 400 := by omega
        clear a0 a1 a2 a3 a4 b0 b1 b2 b3 b4 al
        generalize hT : catB (xs.take i) = T at *
        go_wp2_with fail
        go_roundg (xs.length - (i + 1))
        case rel => exact ⟨i + 1, rfl, by rw [NX.out], Nat.le_refl _, hil, rfl⟩
        case measure => have := HM.out; omega
      · have h5 : ¬ ((catB (xs.take i)).size : Int) ≤ 400 := by omega
        have h6 : (400 : Int) < ((catB (xs.take i)).size : Int) := by omega
        have JR := Lib.hid (show joinR xs = (vz, 4) from if_neg (by have h1 := CS.out; have h2 := JT.out; omega))
        generalize hT : catB (xs.take i) = T at *
        go_wp2_with fail
        refine (rbad _ _).mono ?_
        rintro e w1 ⟨rfl, hb⟩
        obtain ⟨⟨r0, r1, r2, r3, r4⟩, ⟨f0, f1, f2, f3, f4⟩, rl⟩ := (GB.out.below hb).full
        have B1 := Lib.hid (below_tr B0.out hb)
        clear hb
        go_wp2_with fail
        exact bodyPost_ret (v := .agg #[.int .i64 0, .int .i64 0, .string ⟨#[]⟩, .slice none 0 0, .int .i64 4]) (by simp [results, Tryd.results29, go_sem, r0, r1, r2, r3, r4, vz, VL.kind, VL.num, VL.text]) rfl (by rw [JR.out]; exact ⟨rfl, below_set5 B1.out (Nat.le_refl _) _ _ _ _ _⟩)
    · have te : xs.take i = xs := List.take_of_length_le (by omega)
      rw [te] at CS ⊢
      by_cases h4 : (catB xs).size ≤ 400
      · have h5 : ¬ (400 : Int) < ((catB xs).size : Int) := by omega
        have JR := Lib.hid (show joinR xs = (vstr (catB xs), 0) from if_pos (by have h1 := CS.out; omega))
        generalize catB xs = T at *
        go_wp2_with fail
        exact bodyPost_ret (v := .agg #[.int .i64 2, .int .i64 0, .string T, .slice none 0 0, .int .i64 0]) (by simp [results, Tryd.results29, go_sem, a0, a1, a2, a3, a4]) rfl (by rw [JR.out]; exact ⟨rfl, below_set5 B0.out (Nat.le_refl _) _ _ _ _ _⟩)
      · have h5 : (400 : Int) < ((catB xs).size : Int) := by omega
        have JR := Lib.hid (show joinR xs = (vz, 4) from if_neg (by have h1 := CS.out; omega))
        generalize catB xs = T at *
        go_wp2_with fail
        refine (rbad _ _).mono ?_
        rintro e w1 ⟨rfl, hb⟩
        obtain ⟨⟨r0, r1, r2, r3, r4⟩, ⟨f0, f1, f2, f3, f4⟩, rl⟩ := (GB.out.below hb).full
        have B1 := Lib.hid (below_tr B0.out hb)
        clear hb
        go_wp2_with fail
        exact bodyPost_ret (v := .agg #[.int .i64 0, .int .i64 0, .string ⟨#[]⟩, .slice none 0 0, .int .i64 4]) (by simp [results, Tryd.results29, go_sem, r0, r1, r2, r3, r4, vz, VL.kind, VL.num, VL.text]) rfl (by rw [JR.out]; exact ⟨rfl, below_set5 B1.out (Nat.le_refl _) _ _ _ _ _⟩)
set_option maxHeartbeats 4000000 in
set_option maxRecDepth 20000 in
theorem rjoined (D : Nat) (by_ : ByteArray) (l : List VL) (lv : Value) (h : RowRd w D l lv) (hn : l.length ≤ 1000) (ha : by_.size ≤ 1000) (hs : ∀ v ∈ l, v.text.size ≤ 1000) :
    Calls Tryd.prog 24 #[.string by_, lv] w (Doc (joinR (weave by_ (l.map VL.text))) w) := by
  have HS := Lib.hid hs
  have HA := Lib.hid ha
  have KB := Lib.hid h
  obtain ⟨lbo, lbc, rfl⟩ := h.shape
  obtain ⟨i0, hi0, hz0, hz1, hz2⟩ := info_parts info_str
  clear h hs ha
  go_enter Tryd.func24, Tryd.ntmps24
  go_wp2_with fail
  have B0 := Lib.hid (below_al (Below.refl w.heap.size w) (.cells #[.int .i64 0, .int .i64 0, .string ⟨#[]⟩, .slice none 0 0, .int .i64 0] 32))
  have GB := Lib.hid (show GotB (w.alloc (.cells #[.int .i64 0, .int .i64 0, .string ⟨#[]⟩, .slice none 0 0, .int .i64 0] 32)) w.heap.size 0 0 ⟨#[]⟩ 0 from heap_alloc_new w _)
  generalize w.alloc (.cells #[.int .i64 0, .int .i64 0, .string ⟨#[]⟩, .slice none 0 0, .int .i64 0] 32) = wa at *
  have KC := Lib.hid (KB.out.below B0.out)
  go_loopg [5, 6] l.length (fun m rv iv wr => ∃ i : Nat, iv = .int .i64 i ∧ l.length - i ≤ m ∧ i ≤ l.length ∧ Below wa.heap.size wa wr ∧ wr.ownsRow wa.heap.size 9 1 rv (weave by_ ((l.map VL.text).take i)).length (strCells (weave by_ ((l.map VL.text).take i))))
  case atStart => exact ⟨0, rfl, Nat.le_refl _, Nat.zero_le _, Below.refl _ _, own_none _ _ _ _⟩
  case round =>
    obtain ⟨i, rfl, hm, hi, hb, ho⟩ := hrel
    obtain ⟨rao, rcap, rfl⟩ := own_len ho
    have HM := Lib.hid hm
    have BR := Lib.hid hb
    have O := Lib.hid ho
    have WL := Lib.hid (weave_len by_ ((l.map VL.text).take i))
    clear hm hb ho
    by_cases hil : i < l.length
    · obtain ⟨u, hu⟩ : ∃ u, l[i]? = some u := ⟨_, List.getElem?_eq_getElem hil⟩
      obtain ⟨ao2, cap2, e2, hat⟩ := (KC.out.below BR.out).at
      simp only [Value.slice.injEq, true_and] at e2
      obtain ⟨rfl, rfl⟩ := e2
      obtain ⟨g2, o2, lu, rfl, -, k0, k1, k2, k3, hr⟩ := hat i u hu
      have TK := Lib.hid (show (l.map VL.text).take (i + 1) = (l.map VL.text).take i ++ [u.text] by rw [List.take_add_one, List.getElem?_map, hu]; rfl)
      have WN0 := Lib.hid (show i = 0 → weave by_ ((l.map VL.text).take (i + 1)) = weave by_ ((l.map VL.text).take i) ++ [u.text] from fun e => by
        rw [TK.out, weave_snoc, if_pos (by rw [e]; rfl), e]; rfl)
      have WN1 := Lib.hid (show ¬ i = 0 → weave by_ ((l.map VL.text).take (i + 1)) = (weave by_ ((l.map VL.text).take i) ++ [by_]) ++ [u.text] from fun e => by
        rw [TK.out, weave_snoc, if_neg (by
          intro h
          have h2 : ((l.map VL.text).take i).length = i := by simp; omega
          rw [h] at h2
          exact e h2.symm)])
      have WLn := Lib.hid (show (weave by_ ((l.map VL.text).take i)).length ≤ 2000 by have := WL.out; simp at this; omega)
      have HU := Lib.hid hu
      have kl := World.block_lt_of_cell? _ _ k2
      simp only at kl
      clear hat hu hr TK WL k0 k1 k3
      have OB := Lib.hid (fun k hk => World.ownsRow.lt O.out k hk)
      have NW := Lib.hid (fun x => news_new wr #[.string x] 9)
      generalize weave by_ ((l.map VL.text).take i) = ws at *
      by_cases h0 : i = 0
      · have hnp : ¬ 0 < i := by omega
        have WT := Lib.hid (WN0.out h0)
        clear h0 WN0 WN1
        go_wp2_with (at_builtin; refine wpList_append_own _ rfl _ _ 57 rfl wa.heap.size 9 i0 _ 1 16 Tryd.underlying57 hi0 hz0 hz1 hz2 rfl (by decide) (.slice rao ws.length rcap) (ws.length) (strCells ws) rfl (O.out.alloc _) ⟨wr.heap.size, 0, none⟩ 1 1 [.string u.text] rfl rfl ?a1 ?b1 ?c1 ?d1 ?e1 ?_)
        try case a1 => exact NW.out _
        case b1 => simp [Value.oneCell']
        case c1 => have := WLn.out; unfold maxLen; omega
        case d1 => have := WLn.out; omega
        case e1 => have := BR.out.size; simp; omega
        intro v' w6 hown hgrow _
        have BZ := Lib.hid (below_grown BR.out hgrow (fun k hk => (OB.out k hk).1))
        have OZ := Lib.hid (show w6.ownsRow wa.heap.size 9 1 v' (ws ++ [u.text]).length (strCells (ws ++ [u.text])) by rw [strCells_snoc, List.length_append]; exact hown)
        clear hown hgrow
        go_wp2_with fail
        go_roundg (l.length - (i + 1))
        case rel => exact ⟨i + 1, rfl, Nat.le_refl _, hil, BZ.out, by rw [WT.out]; exact OZ.out⟩
        case measure => have := HM.out; omega
      · have hpos : 0 < i := by omega
        have WT := Lib.hid (WN1.out h0)
        clear h0 WN0 WN1
        go_wp2_with (at_builtin; refine wpList_append_own _ rfl _ _ 57 rfl wa.heap.size 9 i0 _ 1 16 Tryd.underlying57 hi0 hz0 hz1 hz2 rfl (by decide) (.slice rao ws.length rcap) (ws.length) (strCells ws) rfl (O.out.alloc _) ⟨wr.heap.size, 0, none⟩ 1 1 [.string by_] rfl rfl ?a2 ?b2 ?c2 ?d2 ?e2 ?_)
        try case a2 => exact NW.out _
        case b2 => simp [Value.oneCell']
        case c2 => have := WLn.out; unfold maxLen; omega
        case d2 => have := WLn.out; omega
        case e2 => have := BR.out.size; simp; omega
        intro v' w6 hown hgrow _
        have BZ := Lib.hid (below_grown BR.out hgrow (fun k hk => (OB.out k hk).1))
        have OZ := Lib.hid (show w6.ownsRow wa.heap.size 9 1 v' (ws ++ [by_]).length (strCells (ws ++ [by_])) by rw [strCells_snoc, List.length_append]; exact hown)
        have KU := KC.out.below BZ.out
        obtain ⟨ao4, cap4, e4, hat4⟩ := KU.at
        simp only [Value.slice.injEq, true_and] at e4
        obtain ⟨rfl, rfl⟩ := e4
        obtain ⟨vao, vcap, rfl⟩ := own_len OZ.out
        obtain ⟨g5, o5, lu5, e5, -, q0, q1, q2, q3, -⟩ := hat4 i u HU.out
        simp only [Option.some.injEq, Addr.mk.injEq, and_true] at e5
        obtain ⟨rfl, rfl⟩ := e5
        have ql := World.block_lt_of_cell? _ _ q2
        simp only at ql
        have WL2 := Lib.hid (show (ws ++ [by_]).length ≤ 2001 by have := WLn.out; simp; omega)
        have OB2 := Lib.hid (fun k hk => World.ownsRow.lt OZ.out k hk)
        have NW2 := Lib.hid (news_new w6 #[.string u.text] 9)
        clear hown hgrow WLn k2 kl KU hat4 q0 q1 q3
        generalize ws ++ [by_] = ws2 at *
        have WLn := WL2
        go_wp2_with (at_builtin; refine wpList_append_own _ rfl _ _ 57 rfl wa.heap.size 9 i0 _ 1 16 Tryd.underlying57 hi0 hz0 hz1 hz2 rfl (by decide) (.slice vao ws2.length vcap) (ws2.length) (strCells ws2) rfl (OZ.out.alloc _) ⟨w6.heap.size, 0, none⟩ 1 1 [.string u.text] rfl rfl ?a3 ?b3 ?c3 ?d3 ?e3 ?_)
        try case a3 => exact NW2.out
        case b3 => simp [Value.oneCell']
        case c3 => have := WLn.out; unfold maxLen; omega
        case d3 => have := WLn.out; omega
        case e3 => have := BZ.out.size; simp; omega
        intro v' w7 hown hgrow _
        have BY := Lib.hid (below_grown BZ.out hgrow (fun k hk => (OB2.out k hk).1))
        have OY := Lib.hid (show w7.ownsRow wa.heap.size 9 1 v' (ws2 ++ [u.text]).length (strCells (ws2 ++ [u.text])) by rw [strCells_snoc, List.length_append]; exact hown)
        clear hown hgrow q2 ql
        go_wp2_with fail
        go_roundg (l.length - (i + 1))
        case rel => exact ⟨i + 1, rfl, Nat.le_refl _, hil, BY.out, by rw [WT.out]; exact OY.out⟩
        case measure => have := HM.out; omega
    · have e : i = l.length := by omega
      have te : (l.map VL.text).take i = l.map VL.text := List.take_of_length_le (by simp; omega)
      rw [te] at O WL
      have SR := Lib.hid (strs_of_own O.out)
      have JJ := Lib.hid (fun W (hw : Below wr.heap.size wr W) => rjoin W _ (weave by_ (l.map VL.text)) (SR.out.below hw) (fun x hx => by
        have := weave_mem HA.out (fun y hy => by obtain ⟨v, hv, rfl⟩ := List.mem_map.1 hy; exact HS.out v hv) x hx
        omega))
      rw [te]
      generalize weave by_ (l.map VL.text) = ws at *
      clear te e
      go_wp2_with fail
      refine (JJ.out _ (Below.refl _ _)).mono ?_
      rintro e w2 ⟨rfl, hb2⟩
      obtain ⟨⟨r0, r1, r2, r3, r4⟩, ⟨f0, f1, f2, f3, f4⟩, rl⟩ := ((GB.out.below BR.out).below hb2).full
      have B2 := Lib.hid (below_tr (below_tr B0.out BR.out) hb2)
      clear hb2
      go_wp2_with fail
      exact bodyPost_ret (v := .agg #[.int .i64 (joinR ws).1.kind, .int .i64 (joinR ws).1.num, .string (joinR ws).1.text, .slice none 0 0, .int .i64 (joinR ws).2]) (by simp [results, Tryd.results24, go_sem, r0, r1, r2, r3, r4]) rfl ⟨rfl, below_set5 B2.out (Nat.le_refl _) _ _ _ _ _⟩
end
end Go.Proofs.YtoaachefdbepiaaDoor
namespace Go.Proofs.YtoaachefdbepiaaDoor
open Go.RowKit
set_option linter.unusedVariables false
set_option linter.unusedSimpArgs false

def dgt (u : Nat) : UInt8 := UInt8.ofNat (48 + u % 10)
theorem dgt_val (u : Nat) : ((dgt u).toNat : Int) = 48 + (u : Int) % 10 := by
  unfold dgt
  have : (UInt8.ofNat (48 + u % 10)).toNat = (48 + u % 10) % 256 := by simp [UInt8.toNat_ofNat']
  rw [this]; omega
theorem dec_step {u : Nat} (h : 10 ≤ u) (acc : List UInt8) : Lib.decDigits (u / 10) ++ (dgt u :: acc) = Lib.decDigits u ++ acc := by
  conv => rhs; rw [Lib.decDigits, dif_neg (by omega)]
  rw [List.append_assoc]; rfl
theorem dec_end {u : Nat} (h : ¬ 10 ≤ u) (acc : List UInt8) : dgt u :: acc = Lib.decDigits u ++ acc := by
  rw [Lib.decDigits_one (by omega)]
  show _ = UInt8.ofNat (48 + u) :: acc
  unfold dgt; rw [Nat.mod_eq_of_lt (by omega)]
theorem dec_len : ∀ (k u : Nat), u < 10 ^ k → 0 < k → (Lib.decDigits u).length ≤ k := by
  intro k
  induction k with
  | zero => intro u _ h; omega
  | succ k ih =>
    intro u hu _
    by_cases h : u < 10
    · rw [Lib.decDigits_one h]; simp
    · rw [Lib.decDigits, dif_neg h]
      rw [Nat.pow_succ] at hu
      have hk : 0 < k := by
        rcases Nat.eq_zero_or_pos k with h0 | h0
        · subst h0; omega
        · exact h0
      have := ih (u / 10) (by omega) hk
      simp; exact this
theorem digs_cons (c : UInt8) (acc : List UInt8) : (⟨#[c]⟩ : ByteArray) ++ ⟨acc.toArray⟩ = ⟨(c :: acc).toArray⟩ := by
  apply ByteArray.ext; simp [ByteArray.data_append]
def DgRel (U : Nat) (w : World) (m : Nat) (uv sv : Value) (wr : World) : Prop :=
  ∃ u acc, uv = .int .u64 (u : Nat) ∧ sv = .string ⟨acc.toArray⟩ ∧ u ≤ m ∧ u ≤ 9223372036854775808 ∧ Lib.decDigits u ++ acc = Lib.decDigits U ∧ Below w.heap.size w wr
section
variable (w : World)
set_option maxHeartbeats 4000000 in
set_option maxRecDepth 20000 in
theorem rdigs_pos (U : Nat) (hU : U ≤ 9223372036854775807) : Calls Tryd.prog 42 #[.int .i64 (U : Int)] w (Made (.string ⟨(Lib.decDigits U).toArray⟩) w) := by
  have h0 : ¬ ((U : Int) < 0) := by omega
  have LU := Lib.hid (dec_len 19 U (by omega) (by omega))
  go_enter Tryd.func42, Tryd.ntmps42
  go_wp2_with fail
  go_loopg [3, 4] U (fun m uv sv wr => DgRel U w m uv sv wr)
  case atStart => exact ⟨U, [], rfl, rfl, Nat.le_refl _, by omega, by simp, Below.refl _ _⟩
  case round =>
    obtain ⟨u, acc, rfl, rfl, hm, hu, he, hb⟩ := hrel
    have HM := Lib.hid hm
    have HE := Lib.hid he
    have HB := Lib.hid hb
    have SC := Lib.hid (digs_cons (dgt u) acc)
    have hsz : (⟨acc.toArray⟩ : ByteArray).size ≤ 19 := by
      have h1 := congrArg List.length he
      rw [List.length_append] at h1
      have := LU.out
      simp [ByteArray.size]; omega
    have hs1 : (⟨#[dgt u]⟩ : ByteArray).size = 1 := rfl
    clear hm he hb h0
    by_cases h10 : 10 ≤ u
    · have hcv := dig_conv wr (48 + (u : Int) % 10) (dgt u) (dgt_val u).symm
      have ST := Lib.hid ((dec_step h10 acc).trans HE.out)
      have hlt : u / 10 < u := by omega
      have LT := Lib.hid hlt
      have hu2 : u / 10 ≤ 9223372036854775808 := by omega
      have U2 := Lib.hid hu2
      clear hlt hu2
      go_wp2_with fail
      go_roundg (u / 10)
      case rel => exact ⟨u / 10, dgt u :: acc, congrArg _ (by omega), by rw [SC.out], Nat.le_refl _, U2.out, ST.out, HB.out.alloc HB.out.size _⟩
      case measure => have := HM.out; have := LT.out; omega
    · have hcv := dig_conv wr (48 + (u : Int)) (dgt u) (by rw [dgt_val u]; omega)
      have ST := Lib.hid ((dec_end h10 acc).trans HE.out)
      have h0 : ¬ ((U : Int) < 0) := by omega
      go_wp2_with fail
      go_ret
      exact ⟨by rw [SC.out, ST.out]; rfl, HB.out.alloc HB.out.size _⟩
set_option maxHeartbeats 4000000 in
set_option maxRecDepth 20000 in
theorem rdigs_neg (U : Nat) (hU : U ≤ 9223372036854775808) (h1 : 0 < U) : Calls Tryd.prog 42 #[.int .i64 (-(U : Int))] w (Made (.string ⟨(45 :: Lib.decDigits U).toArray⟩) w) := by
  have h0 : (-(U : Int)) < 0 := by omega
  have LU := Lib.hid (dec_len 20 U (by omega) (by omega))
  go_enter Tryd.func42, Tryd.ntmps42
  go_wp2_with fail
  have W2 := Lib.hid (show IntKind.u64.wrap (-IntKind.u64.wrap (-(U : Int))) = (U : Int) by rw [IntKind.wrap_u64, IntKind.wrap_u64]; omega)
  go_loopg [3, 4] U (fun m uv sv wr => DgRel U w m uv sv wr)
  case atStart => exact ⟨U, [], by rw [W2.out], rfl, Nat.le_refl _, by omega, by simp, Below.refl _ _⟩
  case round =>
    obtain ⟨u, acc, rfl, rfl, hm, hu, he, hb⟩ := hrel
    have HM := Lib.hid hm
    have HE := Lib.hid he
    have HB := Lib.hid hb
    have SC := Lib.hid (digs_cons (dgt u) acc)
    have hsz : (⟨acc.toArray⟩ : ByteArray).size ≤ 20 := by
      have h1 := congrArg List.length he
      rw [List.length_append] at h1
      have := LU.out
      simp [ByteArray.size]; omega
    have hs1 : (⟨#[dgt u]⟩ : ByteArray).size = 1 := rfl
    clear hm he hb h0
    by_cases h10 : 10 ≤ u
    · have hcv := dig_conv wr (48 + (u : Int) % 10) (dgt u) (dgt_val u).symm
      have ST := Lib.hid ((dec_step h10 acc).trans HE.out)
      have hlt : u / 10 < u := by omega
      have LT := Lib.hid hlt
      have hu2 : u / 10 ≤ 9223372036854775808 := by omega
      have U2 := Lib.hid hu2
      clear hlt hu2
      go_wp2_with fail
      go_roundg (u / 10)
      case rel => exact ⟨u / 10, dgt u :: acc, congrArg _ (by omega), by rw [SC.out], Nat.le_refl _, U2.out, ST.out, HB.out.alloc HB.out.size _⟩
      case measure => have := HM.out; have := LT.out; omega
    · have hcv := dig_conv wr (48 + (u : Int)) (dgt u) (by rw [dgt_val u]; omega)
      have ST := Lib.hid ((dec_end h10 acc).trans HE.out)
      have h0 : (-(U : Int)) < 0 := by omega
      have S3 := Lib.hid (digs_cons 45 (Lib.decDigits U))
      have hal : acc.length ≤ 20 := by simpa [ByteArray.size] using hsz
      have hs3 : ¬ 9223372036854775807 < 1 + (1 + acc.length) := by omega
      go_wp2_with fail
      go_ret
      exact ⟨by rw [SC.out, ST.out, ← S3.out]; rfl, HB.out.alloc HB.out.size _⟩
/-- The document's Digits: the decimal numeral. -/
theorem rdigs (n : Int) (h : I64 n) : Calls Tryd.prog 42 #[.int .i64 n] w (Made (.string ⟨(Lib.itoa n).toArray⟩) w) := by
  unfold I64 at h
  unfold Lib.itoa
  by_cases hn : n < 0
  · rw [if_pos hn]
    have e : n = -((n.natAbs : Nat) : Int) := by omega
    have h2 := rdigs_neg w n.natAbs (by omega) (by omega)
    rw [← e] at h2
    exact h2
  · rw [if_neg hn]
    have e : n = ((n.toNat : Nat) : Int) := by omega
    have h2 := rdigs_pos w n.toNat (by omega)
    rw [← e] at h2
    exact h2
end
end Go.Proofs.YtoaachefdbepiaaDoor
namespace Go.Proofs.YtoaachefdbepiaaDoor
open Go.RowKit Go.Sort
set_option linter.unusedVariables false
set_option linter.unusedSimpArgs false

/-- The library's table of powers is as it was laid. -/
def TabOK (w : World) : Prop := Lib.TabIs Tryd.prog w "internal/strconv.uint64pow10" .u64 Lib.pow10Tab
theorem gPow : Tryd.prog.globalNamed "internal/strconv.uint64pow10" = some 1 := by kernel_rfl
theorem TabOK.below {w w' : World} (h : TabOK w) (hb : Below w.heap.size w w') : TabOK w' := Joins.tab_stays gPow h hb (Nat.le_refl _)
theorem below_grow {B : Nat} {a w : World} (h : Below B a w) (hB : B ≤ w.heap.size) (os : Array Obj) : Below B a (grow w os) := by
  refine ⟨h.os, h.tape, h.output, ?_, fun b hb => ?_⟩
  · show a.heap.size ≤ (w.heap ++ os).size
    have := h.size; simp; omega
  · show (w.heap ++ os)[b]? = _
    rw [Array.getElem?_append_left (by omega)]
    exact h.block b hb
theorem below_set2 {B : Nat} {w W : World} (h : Below B w W) {g : Nat} (hg : B ≤ g) (v0 v1 : Value) : Below B w ((W.setCell ⟨g, 0, none⟩ v0).setCell ⟨g, 1, none⟩ v1) := (h.setCell hg _).setCell hg _
def itoaB (n : Int) : ByteArray := ⟨(Lib.itoa n).toArray⟩
section
variable (w : World)
set_option maxRecDepth 20000 in
theorem vtext_n (v : VL) (lao : Option Addr) (ln lcap : Nat) (hk : v.kind = 1) (hi : I64 v.num) (ht : TabOK w) : Calls Tryd.prog 52 #[.agg #[.int .i64 v.kind, .int .i64 v.num, .string v.text, .slice lao ln lcap]] w (Made (.tuple #[.string (itoaB v.num), .int .i64 0]) w) := by
  have FB := Lib.hid (fun W (hW : Below w.heap.size w W) => Tryd.strconv_Itoa v.num hi.1 hi.2 W (ht.below hW))
  clear hi ht
  go_enter Tryd.func52, Tryd.ntmps52
  go_wp2_with fail
  with_reducible refine (FB.out _ ?_).mono ?_
  · with_reducible exact below_al (Below.refl _ _) _
  rintro e w1 ⟨rfl, q, os, rfl⟩
  have B1 := Lib.hid (fun (O : Obj) => below_grow (below_drewN (below_al (Below.refl w.heap.size w) O) q) (by simp) os)
  go_wp2_with fail
  go_ret2
  exact ⟨rfl, B1.out _⟩
set_option maxHeartbeats 2000000 in
set_option maxRecDepth 20000 in
theorem ftextOfB (D : Nat) (v : VL) (lv : Value) (h : RowRd w D [v] lv) (s : ByteArray) (c : Int)
    (hT : ∀ (lao : Option Addr) (ln lcap : Nat) (W : World), Below w.heap.size w W → Calls Tryd.prog 52 #[.agg #[.int .i64 v.kind, .int .i64 v.num, .string v.text, .slice lao ln lcap]] W (Made (.tuple #[.string s, .int .i64 c]) W)) :
    Calls Tryd.prog 39 #[lv] w (Told (textR s c) w) := by
  have TT := Lib.hid hT
  obtain ⟨ao, cap, rfl, hat⟩ := h.at
  obtain ⟨g, o, lu, rfl, -, c0, c1, c2, c3, hr⟩ := hat 0 v rfl
  obtain ⟨lao, lcap, rfl⟩ := hr.shape
  simp only [Nat.zero_mul, Nat.add_zero] at c0 c1 c2 c3
  have hg : g < w.heap.size := World.block_lt_of_cell? w _ c0
  clear hat hr h hT
  unfold textR
  by_cases hc : c = 0
  · subst hc
    rw [if_pos rfl]
    go_enter Tryd.func39, Tryd.ntmps39
    go_wp2_with fail
    with_reducible refine (TT.out _ _ _ _ ?_).mono ?_
    · with_reducible exact below_al (Below.refl _ _) _
    rintro e w2 ⟨rfl, hb2⟩
    obtain ⟨⟨r0, r1, r2, r3, rl⟩, f0, f1, f2, f3⟩ := ((NBlk.new w 0 0 ⟨#[]⟩).below hb2).full
    have B2 := Lib.hid (below_tr (below_al (Below.refl w.heap.size w) _) hb2)
    clear hb2
    go_wp2_with fail
    exact bodyPost_ret (v := .tuple #[.agg #[.int .i64 2, .int .i64 0, .string s, .slice none 0 0], .int .i64 0]) (by simp [results, Tryd.results39, go_sem, r0, r1, r2, r3]) rfl ⟨rfl, below_set4 B2.out (Nat.le_refl _) _ _ _ _⟩
  · rw [if_neg hc]
    have g0 : (c != 0) = true := by simpa using hc
    go_enter Tryd.func39, Tryd.ntmps39
    go_wp2_with fail
    with_reducible refine (TT.out _ _ _ _ ?_).mono ?_
    · with_reducible exact below_al (Below.refl _ _) _
    rintro e w2 ⟨rfl, hb2⟩
    obtain ⟨⟨r0, r1, r2, r3, rl⟩, f0, f1, f2, f3⟩ := ((NBlk.new w 0 0 ⟨#[]⟩).below hb2).full
    have B2 := Lib.hid (below_tr (below_al (Below.refl w.heap.size w) _) hb2)
    clear hb2
    go_wp2_with fail
    exact bodyPost_ret (v := .tuple #[.agg #[.int .i64 0, .int .i64 0, .string ⟨#[]⟩, .slice none 0 0], .int .i64 c]) (by simp [results, Tryd.results39, go_sem, r0, r1, r2, r3]) rfl ⟨rfl, below_set4 B2.out (Nat.le_refl _) _ _ _ _⟩
/-- The text of a value, or what is told of one that has none. -/
def textT (v : VL) : ByteArray × Int := if v.kind = 1 then (itoaB v.num, 0) else if v.kind = 2 then (v.text, 0) else if v.kind = 3 then (boolT (v.num == 1), 0) else (⟨#[]⟩, 7)
theorem vtext (v : VL) (lao : Option Addr) (ln lcap : Nat) (hi : I64 v.num) (hk : v.kind = 1 ∨ v.kind = 2 ∨ v.kind = 3 ∨ v.kind = 4) (ht : TabOK w) : Calls Tryd.prog 52 #[.agg #[.int .i64 v.kind, .int .i64 v.num, .string v.text, .slice lao ln lcap]] w (Made (.tuple #[.string (textT v).1, .int .i64 (textT v).2]) w) := by
  unfold textT
  rcases hk with h | h | h | h
  · rw [if_pos h]; exact vtext_n w v lao ln lcap h hi ht
  · rw [if_neg (by omega), if_pos h]; exact vtext_s w v lao ln lcap h
  · rw [if_neg (by omega), if_neg (by omega), if_pos h]; exact vtext_b w v lao ln lcap h
  · rw [if_neg (by omega), if_neg (by omega), if_neg (by omega)]; exact vtext_l w v lao ln lcap h
theorem call_textB (D : Nat) (v : VL) (lv : Value) (h : RowRd w D [v] lv) (hi : I64 v.num) (hk : v.kind = 1 ∨ v.kind = 2 ∨ v.kind = 3 ∨ v.kind = 4) (ht : TabOK w) :
    Calls Tryd.prog 7 #[.string ⟨#[116, 101, 120, 116]⟩, lv] w (Told (textR (textT v).1 (textT v).2) w) :=
  call_told w _ [0] false 39 fnamed_text (takes_one 0 (by omega)) D [v] lv h (check_one (by simp [fitsB])) _ _ _ _ run_textOf fun W hW => ftextOfB W D v lv (h.below hW) (textT v).1 (textT v).2 fun lao ln lcap V hV => vtext V v lao ln lcap hi hk ((ht.below hW).below hV)
theorem bool_bytes : boolT true = ⟨#[116, 114, 117, 101]⟩ ∧ boolT false = ⟨#[102, 97, 108, 115, 101]⟩ := by constructor <;> kernel_rfl
set_option maxHeartbeats 2000000 in
set_option maxRecDepth 20000 in
theorem rtext (v : VL) (lao : Option Addr) (ln lcap : Nat) (hi : I64 v.num) (hk : v.kind = 1 ∨ v.kind = 2 ∨ v.kind = 3 ∨ v.kind = 4) : Calls Tryd.prog 28 #[.agg #[.int .i64 v.kind, .int .i64 v.num, .string v.text, .slice lao ln lcap]] w (Made (.agg #[.string (textT v).1, .int .i64 (textT v).2]) w) := by
  rcases hk with h | h | h | h
  · have g1 : (v.kind == 1) = true := by simpa using h
    have E := Lib.hid (show textT v = (itoaB v.num, 0) from if_pos h)
    have RD := Lib.hid (fun W => rdigs W v.num hi)
    rw [E.out]
    clear h hi
    go_enter Tryd.func28, Tryd.ntmps28
    go_wp2_with fail
    with_reducible refine (RD.out _).mono ?_
    rintro e w1 ⟨rfl, hb⟩
    obtain ⟨hc, hf⟩ := bcell hb
    have B1 := Lib.hid (below_tr (below_al (below_al (Below.refl _ _) _) _) hb)
    have z0 : w.heap.size + 1 < w1.heap.size := by have := hb.size; simp at this; omega
    have EI := Lib.hid (show itoaB v.num = ⟨(Lib.itoa v.num).toArray⟩ from rfl)
    rw [EI.out]
    clear hb
    go_wp2_with fail
    exact bodyPost_ret (v := .agg #[.string ⟨(Lib.itoa v.num).toArray⟩, .int .i64 0]) (by simp [results, Tryd.results28, go_sem, hc, z0]) rfl (by rw [EI.out]; exact ⟨rfl, below_set2 B1.out (by omega) _ _⟩)
  · have g1 : (v.kind == 1) = false := by simp [h]
    have g2 : (v.kind == 2) = true := by simp [h]
    have E := Lib.hid (show textT v = (v.text, 0) by unfold textT; rw [if_neg (by omega), if_pos h])
    rw [E.out]
    clear h hi
    go_enter Tryd.func28, Tryd.ntmps28
    go_wp2_with fail
    exact bodyPost_ret (v := .agg #[.string v.text, .int .i64 0]) (by simp [results, Tryd.results28, go_sem]) rfl ⟨rfl, below_al (below_al (Below.refl _ _) _) _⟩
  · have g1 : (v.kind == 1) = false := by simp [h]
    have g2 : (v.kind == 2) = false := by simp [h]
    have g3 : (v.kind == 3) = true := by simp [h]
    have E := Lib.hid (show textT v = (boolT (v.num == 1), 0) by unfold textT; rw [if_neg (by omega), if_neg (by omega), if_pos h])
    rw [E.out]
    obtain ⟨BT, BF⟩ := bool_bytes
    clear h hi
    cases hb : (v.num == 1)
    · rw [BF]
      go_enter Tryd.func28, Tryd.ntmps28
      go_wp2_with fail
      exact bodyPost_ret (v := .agg #[.string ⟨#[102, 97, 108, 115, 101]⟩, .int .i64 0]) (by simp [results, Tryd.results28, go_sem]) rfl ⟨rfl, below_al (below_al (Below.refl _ _) _) _⟩
    · rw [BT]
      go_enter Tryd.func28, Tryd.ntmps28
      go_wp2_with fail
      exact bodyPost_ret (v := .agg #[.string ⟨#[116, 114, 117, 101]⟩, .int .i64 0]) (by simp [results, Tryd.results28, go_sem]) rfl ⟨rfl, below_al (below_al (Below.refl _ _) _) _⟩
  · have g1 : (v.kind == 1) = false := by simp [h]
    have g2 : (v.kind == 2) = false := by simp [h]
    have g3 : (v.kind == 3) = false := by simp [h]
    have E := Lib.hid (show textT v = (⟨#[]⟩, 7) by unfold textT; rw [if_neg (by omega), if_neg (by omega), if_neg (by omega)])
    rw [E.out]
    clear h hi
    go_enter Tryd.func28, Tryd.ntmps28
    go_wp2_with fail
    exact bodyPost_ret (v := .agg #[.string ⟨#[]⟩, .int .i64 7]) (by simp [results, Tryd.results28, go_sem]) rfl ⟨rfl, below_al (below_al (Below.refl _ _) _) _⟩
end
end Go.Proofs.YtoaachefdbepiaaDoor
namespace Go.Proofs.YtoaachefdbepiaaDoor
open Go.RowKit
set_option linter.unusedVariables false
set_option linter.unusedSimpArgs false

theorem got_field (a b c d e : Value) (W : World) : (Instr.field 32 (.agg #[a, b, c, d, e]) 0).run Tryd.prog W = .ok (.agg #[a, b, c, d]) W := by kernel_rfl
section
variable (w : World)
set_option maxRecDepth 20000
set_option maxHeartbeats 4000000 in
theorem rlist_bad (D : Nat) (l : List VL) (lv : Value) (h : RowRd w D l lv) (hl : 64 < l.length) (hl2 : l.length ≤ 100000) : Calls Tryd.prog 23 #[lv] w (Doc (vz, 4) w) := by
  obtain ⟨i0, hi0, hz0, hz1, hz2⟩ := info_parts info_val
  obtain ⟨lao, lcap, rfl⟩ := h.shape
  obtain ⟨qs, hq1, hq2, hq3, hq4, hq5⟩ := row_src h
  have Q2 := Lib.hid hq2
  have Q3 := Lib.hid hq3
  have Q4 := Lib.hid hq4
  have Q5 := Lib.hid hq5
  clear h hq1 hq2 hq3 hq4 hq5
  have OW := Lib.hid (own_new' w (w.alloc (.cells #[.int .i64 0, .int .i64 0, .string ⟨#[]⟩, .slice none 0 0, .int .i64 0] 32)) (w.heap.size + 1) (by simp))
  rw [show (w.alloc (.cells #[.int .i64 0, .int .i64 0, .string ⟨#[]⟩, .slice none 0 0, .int .i64 0] 32)).heap.size = w.heap.size + 1 by simp] at OW
  have BW := Lib.hid (show Below w.heap.size w _ from below_al (below_al (Below.refl w.heap.size w) (.cells #[.int .i64 0, .int .i64 0, .string ⟨#[]⟩, .slice none 0 0, .int .i64 0] 32)) (.cells #[] 26))
  have GB := Lib.hid (show GotB ((w.alloc (.cells #[.int .i64 0, .int .i64 0, .string ⟨#[]⟩, .slice none 0 0, .int .i64 0] 32)).alloc (.cells #[] 26)) w.heap.size 0 0 ⟨#[]⟩ 0 from (Below.block (below_al (Below.refl _ _) _) _ (by simp)).trans (heap_alloc_new w _))
  go_enter Tryd.func23, Tryd.ntmps23
  go_wp2_with (at_builtin; refine wpList_append_any _ rfl _ _ 22 rfl (w.heap.size + 1) 26 i0 _ 4 56 Tryd.underlying22 hi0 hz0 hz1 hz2 rfl (by decide) (.slice (some ⟨w.heap.size + 1, 0, none⟩) 0 0) 0 [] rfl OW.out lao l.length lcap (rowCells qs) rfl ?a1 Q4.out ?a2 ?b1 ?c1 ?d1 ?e1 ?_)
  case a1 => rw [rowCells_len, Q2.out]
  case a2 => exact fun ad had j u hj => hold BW.out (Q5.out ad had j u hj)
  case b1 => exact Q3.out.one
  case c1 => unfold maxLen; omega
  case d1 => omega
  case e1 => simp
  intro v' w6 hown hgrow
  have B6 := Lib.hid (below_grown' BW.out hgrow (fun k hk => by have h := (World.ownsRow.lt OW.out k hk).1; omega))
  have G6 := Lib.hid (show GotB w6 w.heap.size 0 0 ⟨#[]⟩ 0 from (hgrow.block _ (by simp; omega) (fun e => by have h := (World.ownsRow.lt OW.out _ e.symm).1; omega)).trans GB.out)
  obtain ⟨vo, vc, rfl⟩ := own_len hown
  clear hown hgrow
  have hl3 : (64 : Int) < (l.length : Int) := by omega
  go_wp2_with fail
  refine (rbad _ _).mono ?_
  rintro e w7 ⟨rfl, hb7⟩
  have hb8 := below_tr (below_al (Below.refl w6.heap.size w6) (.cells #[.int .i64 4, .int .i64 0, .string ⟨#[]⟩, .slice vo l.length vc] 26)) hb7
  have B7 := Lib.hid (below_tr B6.out hb8)
  obtain ⟨⟨r0, r1, r2, r3, r4⟩, ⟨f0, f1, f2, f3, f4⟩, rl⟩ := (G6.out.below hb8).full
  clear hb7 hb8
  go_wp2_with fail
  exact bodyPost_ret (v := .agg #[.int .i64 0, .int .i64 0, .string ⟨#[]⟩, .slice none 0 0, .int .i64 4]) (by simp [results, Tryd.results23, go_sem, r0, r1, r2, r3, r4, vz, VL.kind, VL.num, VL.text]) rfl ⟨rfl, below_set5 B7.out (Nat.le_refl _) _ _ _ _ _⟩
set_option maxHeartbeats 4000000 in
theorem rcount_bad (n : Int) (hn : n < 0 ∨ 64 < n) (hi : I64 n) : Calls Tryd.prog 25 #[.int .i64 n] w (Doc (vz, if n < 0 then 1 else 4) w) := by
  unfold I64 at hi
  by_cases h0 : n < 0
  · rw [if_pos h0]
    clear hn
    go_enter Tryd.func25, Tryd.ntmps25
    go_wp2_with fail
    refine (rbad _ _).mono ?_
    rintro e w1 ⟨rfl, hb⟩
    obtain ⟨⟨r0, r1, r2, r3, r4⟩, ⟨f0, f1, f2, f3, f4⟩, rl⟩ := (show GotB w1 w.heap.size 0 0 ⟨#[]⟩ 0 from (hb.block _ (by simp)).trans (heap_alloc_new w _)).full
    have B1 := Lib.hid (below_tr (below_al (Below.refl _ _) _) hb)
    clear hb
    go_wp2_with fail
    exact bodyPost_ret (v := .agg #[.int .i64 0, .int .i64 0, .string ⟨#[]⟩, .slice none 0 0, .int .i64 1]) (by simp [results, Tryd.results25, go_sem, r0, r1, r2, r3, r4, vz, VL.kind, VL.num, VL.text]) rfl ⟨rfl, below_set5 B1.out (Nat.le_refl _) _ _ _ _ _⟩
  · rw [if_neg h0]
    have h64 : 64 < n := by omega
    clear hn
    go_enter Tryd.func25, Tryd.ntmps25
    go_wp2_with fail
    refine (rbad _ _).mono ?_
    rintro e w1 ⟨rfl, hb⟩
    obtain ⟨⟨r0, r1, r2, r3, r4⟩, ⟨f0, f1, f2, f3, f4⟩, rl⟩ := (show GotB w1 w.heap.size 0 0 ⟨#[]⟩ 0 from (hb.block _ (by simp)).trans (heap_alloc_new w _)).full
    have B1 := Lib.hid (below_tr (below_al (Below.refl _ _) _) hb)
    clear hb
    go_wp2_with fail
    exact bodyPost_ret (v := .agg #[.int .i64 0, .int .i64 0, .string ⟨#[]⟩, .slice none 0 0, .int .i64 4]) (by simp [results, Tryd.results25, go_sem, r0, r1, r2, r3, r4, vz, VL.kind, VL.num, VL.text]) rfl ⟨rfl, below_set5 B1.out (Nat.le_refl _) _ _ _ _ _⟩
set_option maxHeartbeats 4000000 in
theorem rcount_ok (n : Nat) (h64 : n ≤ 64) : Calls Tryd.prog 25 #[.int .i64 (n : Int)] w (DocP (fun b => w.heap.size < b) 1 ((upTo n).map vnum) w) := by
  obtain ⟨i0, hi0, hz0, hz1, hz2⟩ := info_parts info_val
  have hn1 : ¬ ((n : Int) < 0) := by omega
  have hn2 : ¬ (64 < (n : Int)) := by omega
  go_enter Tryd.func25, Tryd.ntmps25
  go_wp2_with fail
  have B0 := Lib.hid (below_al (Below.refl w.heap.size w) (.cells #[.int .i64 0, .int .i64 0, .string ⟨#[]⟩, .slice none 0 0, .int .i64 0] 32))
  have GB := Lib.hid (show GotB (w.alloc (.cells #[.int .i64 0, .int .i64 0, .string ⟨#[]⟩, .slice none 0 0, .int .i64 0] 32)) w.heap.size 0 0 ⟨#[]⟩ 0 from heap_alloc_new w _)
  have SZ := Lib.hid (show (w.alloc (.cells #[.int .i64 0, .int .i64 0, .string ⟨#[]⟩, .slice none 0 0, .int .i64 0] 32)).heap.size = w.heap.size + 1 by simp)
  generalize w.alloc (.cells #[.int .i64 0, .int .i64 0, .string ⟨#[]⟩, .slice none 0 0, .int .i64 0] 32) = wa at *
  go_loopg [3, 4] n (fun m rv iv wr => ∃ i : Nat, iv = .int .i64 i ∧ n - i ≤ m ∧ i ≤ n ∧ Below wa.heap.size wa wr ∧ wr.ownsRow wa.heap.size 26 4 rv i (rowCells ((upTo i).map np)))
  case atStart => exact ⟨0, rfl, Nat.le_refl _, Nat.zero_le _, Below.refl _ _, own_none _ _ _ _⟩
  case round =>
    obtain ⟨i, rfl, hm, hi, hb, ho⟩ := hrel
    obtain ⟨rao, rcap, rfl⟩ := own_len ho
    have HM := Lib.hid hm
    have BR := Lib.hid hb
    have O := Lib.hid ho
    clear hm hb ho
    by_cases hil : i < n
    · have TS := Lib.hid (show rowCells ((upTo (i + 1)).map np) = rowCells ((upTo i).map np) ++ pairCells (np i) by rw [upTo_succ, List.map_append, ← rowCells_snoc]; rfl)
      go_wp2_with fail
      refine (rnum _ _).mono ?_
      rintro e w2 ⟨rfl, hb2⟩
      have B2 := Lib.hid (below_tr BR.out hb2)
      have O2 := Lib.hid (own_below O.out hb2)
      have OB := Lib.hid (fun k hk => World.ownsRow.lt O2.out k hk)
      have NW := Lib.hid (news_new w2 #[.int .i64 1, .int .i64 (i : Int), .string ⟨#[]⟩, .slice none 0 0] 26)
      clear hb2
      simp only [vnum, VL.kind, VL.num, VL.text]
      have hfd := fun W => got_field (.int .i64 1) (.int .i64 (i : Int)) (.string ⟨#[]⟩) (.slice none 0 0) (.int .i64 0) W
      go_wp2_with (at_builtin; refine wpList_append_own _ rfl _ _ 22 rfl wa.heap.size 26 i0 _ 4 56 Tryd.underlying22 hi0 hz0 hz1 hz2 rfl (by decide) (.slice rao i rcap) i (rowCells ((upTo i).map np)) rfl (O2.out.alloc _) ⟨w2.heap.size, 0, none⟩ 1 1 [.int .i64 1, .int .i64 (i : Int), .string ⟨#[]⟩, .slice none 0 0] rfl rfl ?a1 ?b1 ?c1 ?d1 ?e1 ?_)
      try case a1 => exact NW.out
      case b1 => simp [Value.oneCell']
      case c1 => unfold maxLen; omega
      case d1 => omega
      case e1 => have := B2.out.size; simp; omega
      intro v' w6 hown hgrow _
      have BZ := Lib.hid (below_grown B2.out hgrow (fun k hk => (OB.out k hk).1))
      have OZ := Lib.hid (show w6.ownsRow wa.heap.size 26 4 v' (i + 1) (rowCells ((upTo (i + 1)).map np)) by rw [TS.out]; exact hown)
      clear hown hgrow
      go_wp2_with fail
      go_roundg (n - (i + 1))
      case rel => exact ⟨i + 1, rfl, Nat.le_refl _, hil, BZ.out, OZ.out⟩
      case measure => have := HM.out; omega
    · obtain rfl : i = n := by omega
      have UL := Lib.hid (show ((upTo i).map np).length = i by rw [List.length_map, upTo_len])
      have VL' := Lib.hid (show ((upTo i).map vnum).length = i by rw [List.length_map, upTo_len])
      have MV := Lib.hid (show ((upTo i).map np).map (·.1) = (upTo i).map vnum by rw [List.map_map]; rfl)
      have RI := Lib.hid (rowIn_lt (rowIn_of_own (P := fun b => wa.heap.size ≤ b) (Q := fun _ => False) (D := 0) (ps := (upTo i).map np) (by rw [UL.out]; exact O.out) (by rw [UL.out]; unfold maxLen; omega) (fun p hp => by
        obtain ⟨x, -, rfl⟩ := List.mem_map.1 hp
        exact rowIn_nil _ _ _ _ _) (fun b h => h.elim) (fun b h => h)))
      rw [MV.out] at RI
      have LL := Lib.hid (rlist_in wr _ _ _ _ RI.out (fun b h => h.2) (by rw [VL'.out]; exact h64) (by
        have h := deep_may 64 _ (may_nums (xs := upTo i) (by rw [upTo_len]; exact h64))
        simpa using h))
      generalize hKS : (upTo i).map vnum = ks at *
      have HKS := Lib.hid hKS
      clear hKS
      have hks := VL'.out
      go_wp2_with fail
      refine LL.out.mono ?_
      rintro e w2 ⟨lo, lc, rfl, hri, hb2⟩
      have B2 := Lib.hid (below_tr (below_tr B0.out BR.out) hb2)
      have R2 := Lib.hid hri
      obtain ⟨⟨r0, r1, r2, r3, r4⟩, ⟨f0, f1, f2, f3, f4⟩, rl⟩ := ((GB.out.below BR.out).below hb2).full
      have WS := Lib.hid BR.out.size
      clear hb2 hri
      go_wp2_with fail
      have S1 := SZ.out
      have S2 := WS.out
      have FIN := fun (W : World) (hW : W = (((((w2.setCell ⟨w.heap.size, 0, none⟩ (.int .i64 4)).setCell ⟨w.heap.size, 1, none⟩ (.int .i64 0)).setCell ⟨w.heap.size, 2, none⟩ (.string ⟨#[]⟩)).setCell ⟨w.heap.size, 3, none⟩ (.slice lo ks.length lc)).setCell ⟨w.heap.size, 4, none⟩ (.int .i64 0))) =>
        (show DocP (fun b => w.heap.size < b) 1 ks w (.returned (.agg #[.int .i64 4, .int .i64 0, .string ⟨#[]⟩, .slice lo ks.length lc, .int .i64 0])) W from by
          subst hW
          exact ⟨lo, lc, rfl, RowIn.keep (fun b h => by
            rcases h with h | h
            · have := h.1; omega
            · omega) (fun _ _ _ _ h => h) (set5_in R2.out (fun h => by
            rcases h with h | h
            · have := h.1; omega
            · omega) _ _ _ _ _), below_set5 B2.out (Nat.le_refl _) _ _ _ _ _⟩)
      have EK := HKS.out
      refine bodyPost_ret (v := .agg #[.int .i64 4, .int .i64 0, .string ⟨#[]⟩, .slice lo ks.length lc, .int .i64 0]) (by simp [results, Tryd.results25, go_sem, r0, r1, r2, r3, r4, hks]) rfl ?_
      rw [EK]
      exact FIN _ (by simp [hks])
end
end Go.Proofs.YtoaachefdbepiaaDoor
