/- Package expand: a block as often as its count says. -/
import Derived.Test.YtndeihmclecmcaaGreatDoorWtL
namespace Go.Proofs.YtndeihmclecmcaaGreatDoor
open Go.RowKit
set_option linter.unusedVariables false
set_option linter.unusedSimpArgs false
/-- 'count.index'. -/
def kIndex : ByteArray := ⟨#[99, 111, 117, 110, 116, 46, 105, 110, 100, 101, 120]⟩
def idxB (i : Nat) : List (ByteArray × VL) := [(kIndex, vnum (i : Int))]
def nameI (nm : ByteArray) (i : Nat) : ByteArray := nm ++ ⟨#[45]⟩ ++ itoaB (i : Int)
def turnsL {σ : Type} (step : ByteArray → List (ByteArray × VL) → σ → Int × σ) (nm : ByteArray) : List Nat → σ → Int × σ
  | [], s => (0, s)
  | i :: is, s => if (step (nameI nm i) (idxB i) s).1 ≠ 0 then step (nameI nm i) (idxB i) s else turnsL step nm is (step (nameI nm i) (idxB i) s).2
def turnsR {σ : Type} (V : List NodeL → VL × Int) (step : ByteArray → List (ByteArray × VL) → σ → Int × σ) (pf : ByteArray) (b : BlkL) (s : σ) : Int × σ :=
  match attrL b.attrs kCount with
  | none => step (pf ++ b.label) [] s
  | some ns => if (countR (V ns)).2 ≠ 0 then ((countR (V ns)).2, s) else turnsL step (pf ++ b.label) (List.range (countR (V ns)).1.toNat) s
theorem turnsL_err {σ : Type} {step : ByteArray → List (ByteArray × VL) → σ → Int × σ} {nm : ByteArray} {i : Nat} {is : List Nat} {s : σ} (k : (step (nameI nm i) (idxB i) s).1 ≠ 0) : turnsL step nm (i :: is) s = step (nameI nm i) (idxB i) s := by rw [turnsL, if_pos k]
theorem turnsL_ok {σ : Type} {step : ByteArray → List (ByteArray × VL) → σ → Int × σ} {nm : ByteArray} {i : Nat} {is : List Nat} {s : σ} (k : (step (nameI nm i) (idxB i) s).1 = 0) : turnsL step nm (i :: is) s = turnsL step nm is (step (nameI nm i) (idxB i) s).2 := by rw [turnsL, if_neg (by simpa using k)]
theorem range_drop {n j : Nat} (h : j < n) : (List.range n).drop j = j :: (List.range n).drop (j + 1) := by
  have := List.drop_eq_getElem_cons (l := List.range n) (i := j) (by simpa using h)
  rw [this]
  simp
theorem count_nat {r : VL × Int} (h : (countR r).2 = 0) : ∃ n : Nat, (countR r).1 = (n : Int) ∧ n ≤ 20 := by
  unfold countR at h ⊢
  by_cases h2 : r.2 = 0
  · rw [if_neg (by simpa using h2)] at h ⊢
    by_cases k : r.1.kind = 1
    · rw [if_neg (by simpa using k)] at h ⊢
      by_cases n0 : r.1.num < 0
      · rw [if_pos n0] at h; cases h
      · rw [if_neg n0] at h ⊢
        by_cases n1 : 20 < r.1.num
        · rw [if_pos n1] at h; cases h
        · rw [if_neg n1]
          exact ⟨r.1.num.toNat, (Int.toNat_of_nonneg (by omega)).symm, by omega⟩
    · rw [if_pos k] at h; cases h
  · rw [if_pos h2] at h; exact absurd h h2
theorem itoa_size {j : Nat} (h : j ≤ 20) : (itoaB (j : Int)).size ≤ 2 := by
  have : ∀ j : Fin 21, (itoaB ((j.val : Nat) : Int)).size ≤ 2 := by decide +kernel
  exact this ⟨j, by omega⟩
/-- What a region leaves: a turn at block T, its row at block R. -/
def RegOut (wa : World) (tc rc : Nat → Array Value) (W : World) (T R : Nat) : Prop := Below wa.heap.size wa W ∧ W.heap[T]? = some (.cells (tc R) 120 (0, 0)) ∧ W.heap[R]? = some (.cells (rc 0) 41 (0, 0))
theorem at_w {Q : Exit → Act → World → Prop} {e : Exit} {a : Act} {wa W : World} {T R : Nat} {tc rc : Nat → Array Value} (h : RegOut wa tc rc W T R) (k : ∀ W', RegOut wa tc rc W' T R → Q e a W') : Q e a W := k W h
section
variable {wa w7 : World} {tc rc : Nat → Array Value}
theorem out1 (B7 : Below wa.heap.size wa w7) : RegOut wa tc rc ((w7.alloc (.cells (rc 0) 41)).alloc (.cells (tc w7.heap.size) 120)) (w7.heap.size + 1) w7.heap.size :=
  ⟨below_al (below_al B7 _) _, heap_at (by simp), (heap_alloc_old _ _ (by simp)).trans (heap_alloc_new _ _)⟩
theorem out2 (B7 : Below wa.heap.size wa w7) : RegOut wa tc rc ((w7.alloc (.cells (tc (w7.heap.size + 1)) 120)).alloc (.cells (rc 0) 41)) w7.heap.size (w7.heap.size + 1) :=
  ⟨below_al (below_al B7 _) _, (heap_alloc_old _ _ (by simp)).trans (heap_alloc_new _ _), heap_at (by simp)⟩
theorem out3 (B7 : Below wa.heap.size wa w7) {R : Nat} (hR : w7.heap[R]? = some (.cells (rc 0) 41 (0, 0))) : RegOut wa tc rc (w7.alloc (.cells (tc R) 120)) w7.heap.size R :=
  ⟨below_al B7 _, heap_alloc_new _ _, (heap_alloc_old _ _ (Array.getElem?_eq_some_iff.1 hR).1).trans hR⟩
theorem out4 (B7 : Below wa.heap.size wa w7) {T R : Nat} (hT : w7.heap[T]? = some (.cells #[.pointer none, .string ⟨#[]⟩, .slice none 0 0] 120 (0, 0))) (hR : w7.heap[R]? = some (.cells (rc 0) 41 (0, 0))) (hl : wa.heap.size ≤ T) {x y z : Value} (he : tc R = #[x, y, z]) :
    RegOut wa tc rc (((w7.setCell ⟨T, 0, none⟩ x).setCell ⟨T, 1, none⟩ y).setCell ⟨T, 2, none⟩ z) T R := by
  have hne : R ≠ T := by
    rintro rfl
    rw [hT] at hR
    simp at hR
  have k0 := heap_setCell_same w7 T 0 _ _ x hT
  have k1 := heap_setCell_same _ T 1 _ _ y k0
  have k2 := heap_setCell_same _ T 2 _ _ z k1
  refine ⟨((B7.setCell hl _).setCell hl _).setCell hl _, ?_, ?_⟩
  · rw [k2, he]
    rfl
  · rw [heap_setCell_other _ ⟨T, 2, none⟩ R z hne, heap_setCell_other _ ⟨T, 1, none⟩ R y hne, heap_setCell_other _ ⟨T, 0, none⟩ R x hne]
    exact hR
end
theorem idx_rd {W : World} {R j : Nat} (h : W.heap[R]? = some (.cells #[.string kIndex, .int .i64 1, .int .i64 (j : Int), .string ⟨#[]⟩, .slice none 0 0] 41 (0, 0))) : BindsRd W 0 (.slice (some ⟨R, 0, none⟩) 1 1) (idxB j) := by
  refine ⟨some ⟨R, 0, none⟩, 1, rfl, fun i b hi => ?_⟩
  have hi0 : i = 0 := by
    have := (List.getElem?_eq_some_iff.1 hi).1
    simp [idxB] at this
    exact this
  subst hi0
  obtain rfl : (kIndex, vnum (j : Int)) = b := by simpa [idxB] using hi
  exact ⟨R, 0, none, 0, rfl, cell_of_row _ _ 0 _ _ _ h, cell_of_row _ _ 1 _ _ _ h, cell_of_row _ _ 2 _ _ _ h, cell_of_row _ _ 3 _ _ _ h, cell_of_row _ _ 4 _ _ _ h, RowRd.nil _ _ _ _⟩
theorem turn_calls {f : FuncId} {p : Nat} {nm nm2 : ByteArray} {hv bv : Value} {W : World} {Q : Ending → World → Prop} (h : Calls Tryz.prog f #[turnV p nm hv, bv] W Q) (e : nm = nm2) : Calls Tryz.prog f #[turnV p nm2 hv, bv] W Q := by subst e; exact h
theorem box3 {w : World} {b : Nat} {x y z : Value} {t : TypeId} (h : w.heap[b]? = some (.cells #[x, y, z] t (0, 0))) : w.cell? ⟨b, 0, none⟩ = some x ∧ w.cell? ⟨b, 1, none⟩ = some y ∧ w.cell? ⟨b, 2, none⟩ = some z ∧ w.frozen? ⟨b, 0, none⟩ = false ∧ w.frozen? ⟨b, 1, none⟩ = false ∧ w.frozen? ⟨b, 2, none⟩ = false :=
  ⟨cell_of_row _ _ 0 _ _ _ h, cell_of_row _ _ 1 _ _ _ h, cell_of_row _ _ 2 _ _ _ h, frozen_of_row _ _ 0 _ _ h, frozen_of_row _ _ 1 _ _ h, frozen_of_row _ _ 2 _ _ h⟩
section
variable (w : World)
set_option maxHeartbeats 4000000 in
set_option maxRecDepth 20000 in
theorem pturns {σ : Type} (step : ByteArray → List (ByteArray × VL) → σ → Int × σ) (I : σ → World → Prop) (d p gi gn nn : Nat) (ar : Value) (lb pf : ByteArray) (bv : Value) (L : ByteArray → Option VL) (f : FuncId) (FE : ∀ a W, (callFunc f a).run Tryz.prog W = .ok (.enter f a) W) (w0 : World)
    (hsc : ∀ s W, I s W → ScAt W p ar lb bv pf gi gn ∧ ScopeAt W 0 gn nn L ∧ TabOK W ∧ ErrVar W ∧ Below w0.heap.size w0 W) (hbel : ∀ s W W', I s W → Below W.heap.size W W' → I s W')
    (b : BlkL) (ato : Option Addr) (atc : Nat) (bo : Option Addr) (bc : Nat) (ha : AttrsRd w0 (.slice ato b.attrs.length atc) b.attrs) (hl : b.attrs.length ≤ 1000) (hz : ∀ a ∈ b.attrs, a.1.size ≤ 100000) (V : List NodeL → VL × Int) (B : Nat) (hV : ∀ ns, attrL b.attrs kCount = some ns → Worth L [] ns (V ns) ∧ I64 (V ns).1.num) (hpf : pf.size ≤ 100000) (hlb : b.label.size ≤ 100000)
    (hst : ∀ nm hd s W hv, (hd = [] ∨ ∃ i, i < 21 ∧ hd = idxB i) → I s W → BindsRd W 0 hv hd → Calls Tryz.prog f #[turnV p nm hv, blkV b ato atc bo bc] W fun e W' => e = .returned (.int .i64 (step nm hd s).1) ∧ I (step nm hd s).2 W' ∧ Fr B none W W')
    (s0 : σ) (h : I s0 w) :
    Calls Tryz.prog 56 #[.pointer (some ⟨p, 0, none⟩), blkV b ato atc bo bc, .func (.func f) #[] #[]] w fun e w' => e = .returned (.int .i64 (turnsR V step pf b s0).1) ∧ I (turnsR V step pf b s0).2 w' := by
  have SC := Lib.hid hsc
  have BE := Lib.hid hbel
  have ST := Lib.hid hst
  have HV := Lib.hid hV
  have HA := Lib.hid ha
  have B0 := Lib.hid (below_al (Below.refl w.heap.size w) (.cells #[.int .i64 b.kind, .string b.label, .slice ato b.attrs.length atc, .slice bo b.blocks.length bc] 30))
  have NB := Lib.hid (heap_alloc_new w (.cells #[.int .i64 b.kind, .string b.label, .slice ato b.attrs.length atc, .slice bo b.blocks.length bc] 30))
  have I0 := Lib.hid (hbel s0 w _ h B0.out)
  have c3 := (hsc s0 _ I0.out).1.cells.2.2.2.1
  have PA := Lib.hid (fun W (hW : Below w0.heap.size w0 W) => pattribute W b ato atc bo bc (ha.below hW) hl hz kCount (by show (5 : Nat) ≤ _; omega))
  have hss : pf.size + b.label.size ≤ 9223372036854775807 := by omega
  have hss2 : ¬ 9223372036854775807 < pf.size + b.label.size := by omega
  have hs1 : pf.size ≤ 9223372036854775807 := by omega
  have hs2 : b.label.size ≤ 9223372036854775807 := by omega
  unfold blkV kCount at PA
  unfold blkV
  clear hsc hbel hst h hV ha
  go_enter Tryz.func56, Tryz.ntmps56
  go_wp2_with fail
  go_quiet (fail)
  have BD := Lib.hid (below_drawn (w.alloc (.cells #[.int .i64 b.kind, .string b.label, .slice ato b.attrs.length atc, .slice bo b.blocks.length bc] 30)) nq)
  have I1 := Lib.hid (BE.out s0 _ _ I0.out BD.out)
  have NB1 := Lib.hid ((BD.out.block _ (Array.getElem?_eq_some_iff.1 NB.out).1).trans NB.out)
  generalize (w.alloc (.cells #[.int .i64 b.kind, .string b.label, .slice ato b.attrs.length atc, .slice bo b.blocks.length bc] 30)).drewN nq = w1 at *
  generalize w.heap.size = G0 at *
  clear B0 NB I0 BD c3
  have b0 := cell_of_row _ _ 0 _ _ _ NB1.out
  have b1 := cell_of_row _ _ 1 _ _ _ NB1.out
  have b2 := cell_of_row _ _ 2 _ _ _ NB1.out
  have b3 := cell_of_row _ _ 3 _ _ _ NB1.out
  simp at b0 b1 b2 b3
  have PA1 := Lib.hid (PA.out w1 (SC.out s0 w1 I1.out).2.2.2.2)
  clear PA
  go_wp2_with fail
  refine PA1.out.mono ?_
  rintro e w2 ⟨hb2, he⟩
  have I2 := Lib.hid (BE.out s0 _ _ I1.out hb2)
  have NB2 := Lib.hid ((hb2.block _ (Array.getElem?_eq_some_iff.1 NB1.out).1).trans NB1.out)
  replace b0 := hold hb2 b0
  replace b1 := hold hb2 b1
  replace b2 := hold hb2 b2
  replace b3 := hold hb2 b3
  clear hb2 PA1 NB1 I1
  rw [show (⟨#[99, 111, 117, 110, 116]⟩ : ByteArray) = kCount from rfl] at he
  cases hat : attrL b.attrs kCount with
  | none =>
    rw [hat] at he
    obtain rfl := he
    have E := Lib.hid (show turnsR V step pf b s0 = step (pf ++ b.label) [] s0 by unfold turnsR; rw [hat])
    clear hat
    have PT := Lib.hid (ST.out (pf ++ b.label) [] s0 w2 (.slice none 0 0) (.inl rfl) I2.out (binds_nil _ _ _ _))
    unfold turnV blkV at PT
    go_wp2_with fail
    refine PT.out.mono ?_
    rintro e w3 ⟨rfl, hi3, -⟩
    have I3 := Lib.hid hi3
    clear hi3 PT
    go_wp2_with fail
    go_ret
    rw [E.out]
    exact ⟨rfl, I3.out⟩
  | some ns =>
    rw [hat] at he
    obtain ⟨nv, rfl, hnv⟩ := he
    have hat2 := Lib.hid hat
    obtain ⟨hw, hi⟩ := HV.out ns hat
    obtain ⟨s1, s2, s3, s4, s5⟩ := SC.out s0 w2 I2.out
    obtain ⟨no, nc, rfl, -⟩ := hnv.at
    have PC := Lib.hid (pcount w2 p gi gn nn ar lb pf bv L _ ns (V ns) s1 s2 hnv hw s3 s4 hi)
    clear hat s1 s2 s3 s4 s5 hnv
    go_wp2_with fail
    refine PC.out.mono ?_
    rintro e w3 ⟨rfl, hb3⟩
    have I3 := Lib.hid (BE.out s0 _ _ I2.out hb3)
    replace b0 := hold hb3 b0
    replace b1 := hold hb3 b1
    replace b2 := hold hb3 b2
    replace b3 := hold hb3 b3
    have NB3 := Lib.hid ((hb3.block _ (Array.getElem?_eq_some_iff.1 NB2.out).1).trans NB2.out)
    clear hb3 PC NB2 I2
    by_cases hc : (countR (V ns)).2 = 0
    · have gc : ((countR (V ns)).2 != 0) = false := by simpa using hc
      obtain ⟨n, hn, hn20⟩ := count_nat hc
      have E := Lib.hid (show turnsR V step pf b s0 = turnsL step (pf ++ b.label) (List.range n) s0 by unfold turnsR; rw [hat2.out]; dsimp only; rw [if_neg (by simpa using hc), hn, Int.toNat_natCast])
      rw [hn] at *
      clear hc hw hi
      go_wp2_with fail
      have FI := Lib.hid (fun W (hT : TabOK W) (i : Nat) (hi : i ≤ 20) => Tryz.strconv_Itoa (i : Int) (by omega) (by omega) W hT)
      go_loopg [46] n (fun m iv wr => ∃ (j : Nat) (s : σ), iv = .int .i64 j ∧ n - j ≤ m ∧ j ≤ n ∧ Hid (I s wr) ∧ Hid (wr.heap[G0]? = some (.cells #[.int .i64 b.kind, .string b.label, .slice ato b.attrs.length atc, .slice bo b.blocks.length bc] 30 (0, 0))) ∧ Hid (turnsL step (pf ++ b.label) ((List.range n).drop j) s = turnsL step (pf ++ b.label) (List.range n) s0))
      case atStart => exact ⟨0, s0, rfl, Nat.le_refl _, Nat.zero_le _, I3, NB3, Lib.hid rfl⟩
      case round =>
        obtain ⟨j, s, rfl, hm, hj, IS, NBr, HJ⟩ := hrel
        have HM := Lib.hid hm
        clear hm
        by_cases hjl : j < n
        · have DR := Lib.hid (range_drop hjl)
          have BI := Lib.hid (below_al (Below.refl wr.heap.size wr) (.cells #[.string ⟨#[99, 111, 117, 110, 116, 46, 105, 110, 100, 101, 120]⟩, .int .i64 1, .int .i64 (j : Int), .string ⟨#[]⟩, .slice none 0 0] 41))
          have NI := Lib.hid (heap_alloc_new wr (.cells #[.string ⟨#[99, 111, 117, 110, 116, 46, 105, 110, 100, 101, 120]⟩, .int .i64 1, .int .i64 (j : Int), .string ⟨#[]⟩, .slice none 0 0] 41))
          have IB := Lib.hid (BE.out s wr _ IS.out BI.out)
          have NBb := Lib.hid ((BI.out.block _ (Array.getElem?_eq_some_iff.1 NBr.out).1).trans NBr.out)
          go_upto_region 12 with fail
          generalize wr.alloc (.cells #[.string ⟨#[99, 111, 117, 110, 116, 46, 105, 110, 100, 101, 120]⟩, .int .i64 1, .int .i64 (j : Int), .string ⟨#[]⟩, .slice none 0 0] 41) = wa at *
          have FJ := Lib.hid (show ∀ U, Below wa.heap.size wa U → Calls Tryz.prog 75 #[.int .i64 (j : Int)] U fun e w' => e = .returned (.string (itoaB (j : Int))) ∧ Below U.heap.size U w' from fun U hU => by
            refine (FI.out U ((SC.out s wa IB.out).2.2.1.below hU) j (by omega)).mono ?_
            rintro e w' ⟨rfl, k, os, rfl⟩
            exact ⟨rfl, below_grow (below_drawn U k) (Nat.le_refl _) os⟩)
          have d0 := cell_of_row _ _ 0 _ _ _ NI.out
          have d1 := cell_of_row _ _ 1 _ _ _ NI.out
          have d2 := cell_of_row _ _ 2 _ _ _ NI.out
          have d3 := cell_of_row _ _ 3 _ _ _ NI.out
          have d4 := cell_of_row _ _ 4 _ _ _ NI.out
          simp at d0 d1 d2 d3 d4
          have z0 : (pf ++ b.label).size ≤ 9223372036854775807 := by rw [ByteArray.size_append]; omega
          have z1 : (pf ++ b.label).size + 1 ≤ 9223372036854775807 := by rw [ByteArray.size_append]; omega
          have z2 : ¬ 9223372036854775807 < (pf ++ b.label).size + 1 := by omega
          have z3 : (itoaB (j : Int)).size ≤ 2 := itoa_size (by omega)
          have hz5 : (⟨#[45]⟩ : ByteArray).size = 1 := rfl
          have z6 : (pf ++ b.label).size + 1 + (itoaB (j : Int)).size ≤ 9223372036854775807 := by rw [ByteArray.size_append]; omega
          have z7 : ¬ 9223372036854775807 < (pf ++ b.label).size + 1 + (itoaB (j : Int)).size := by omega
          generalize hit : itoaB (j : Int) = it at *
          have IT := Lib.hid hit
          clear hit
          generalize pf ++ b.label = nm0 at *
          have NE0 := World.block_lt_of_cell? wa ⟨wr.heap.size, 0, none⟩ d0
          have NE1 : wa.heap.size ≠ wr.heap.size := Nat.ne_of_gt NE0
          have NE2 : wa.heap.size + 1 ≠ wr.heap.size := Nat.ne_of_gt (Nat.lt_succ_of_lt NE0)
          clear NE0
          go_region_held3 (fun w' => w'.cell? ⟨wr.heap.size, 0, none⟩ = some (.string ⟨#[99, 111, 117, 110, 116, 46, 105, 110, 100, 101, 120]⟩) ∧ w'.cell? ⟨wr.heap.size, 1, none⟩ = some (.int .i64 1) ∧ w'.cell? ⟨wr.heap.size, 2, none⟩ = some (.int .i64 (j : Int)) ∧ w'.cell? ⟨wr.heap.size, 3, none⟩ = some (.string ⟨#[]⟩) ∧ w'.cell? ⟨wr.heap.size, 4, none⟩ = some (.slice none 0 0)) (first | exact ⟨q0, q1, q2, q3, q4⟩ | go_keep) (first
            | (go_at_call 75; (with_reducible refine (FJ.out wa.drew (below_drew (Below.refl wa.heap.size wa))).mono ?_); rintro e w7 ⟨rfl, hb7⟩; have B7 := Lib.hid (below_tr (w := wa) (below_drew (Below.refl wa.heap.size wa)) hb7); have q0 := hold B7.out d0; have q1 := hold B7.out d1; have q2 := hold B7.out d2; have q3 := hold B7.out d3; have q4 := hold B7.out d4; clear hb7)
            | (go_at_call 75; (with_reducible refine (FJ.out (wa.alloc (.cells #[.string ⟨#[99, 111, 117, 110, 116, 46, 105, 110, 100, 101, 120]⟩, .int .i64 1, .int .i64 (j : Int), .string ⟨#[]⟩, .slice none 0 0] 41)).drew (below_drew (below_al (Below.refl wa.heap.size wa) _))).mono ?_); rintro e w7 ⟨rfl, hb7⟩; have RB := Lib.hid (show w7.heap[wa.heap.size]? = some (Obj.cells #[.string ⟨#[99, 111, 117, 110, 116, 46, 105, 110, 100, 101, 120]⟩, .int .i64 1, .int .i64 (j : Int), .string ⟨#[]⟩, .slice none 0 0] 41 (0, 0)) from (hb7.block wa.heap.size (show wa.heap.size < (wa.heap.push _).size by rw [Array.size_push]; omega)).trans (heap_alloc_new wa (.cells #[.string ⟨#[99, 111, 117, 110, 116, 46, 105, 110, 100, 101, 120]⟩, .int .i64 1, .int .i64 (j : Int), .string ⟨#[]⟩, .slice none 0 0] 41))); have B7 := Lib.hid (below_tr (w := wa) (below_drew (below_al (Below.refl wa.heap.size wa) _)) hb7); have q0 := hold B7.out d0; have q1 := hold B7.out d1; have q2 := hold B7.out d2; have q3 := hold B7.out d3; have q4 := hold B7.out d4; clear hb7)
            | (go_at_call 75; (with_reducible refine (FJ.out (wa.alloc (.cells #[.pointer none, .string ⟨#[]⟩, .slice none 0 0] 120)).drew (below_drew (below_al (Below.refl wa.heap.size wa) _))).mono ?_); rintro e w7 ⟨rfl, hb7⟩; have B7 := Lib.hid (below_tr (w := wa) (below_drew (below_al (Below.refl wa.heap.size wa) _)) hb7); have q0 := hold B7.out d0; have q1 := hold B7.out d1; have q2 := hold B7.out d2; have q3 := hold B7.out d3; have q4 := hold B7.out d4; have TB := Lib.hid (show w7.heap[wa.heap.size]? = some (Obj.cells #[.pointer none, .string ⟨#[]⟩, .slice none 0 0] 120 (0, 0)) from ((hb7.block wa.heap.size (show wa.heap.size < (wa.heap.push _).size by rw [Array.size_push]; omega)).trans (heap_alloc_new wa (.cells #[.pointer none, .string ⟨#[]⟩, .slice none 0 0] 120)))); obtain ⟨t0, t1, t2, tf0, tf1, tf2⟩ := box3 TB.out; have TC := Lib.hid (show (w7.alloc (.cells #[.string ⟨#[99, 111, 117, 110, 116, 46, 105, 110, 100, 101, 120]⟩, .int .i64 1, .int .i64 (j : Int), .string ⟨#[]⟩, .slice none 0 0] 41)).heap[wa.heap.size]? = _ from (heap_alloc_old w7 (.cells #[.string ⟨#[99, 111, 117, 110, 116, 46, 105, 110, 100, 101, 120]⟩, .int .i64 1, .int .i64 (j : Int), .string ⟨#[]⟩, .slice none 0 0] 41) (Array.getElem?_eq_some_iff.1 TB.out).1).trans TB.out); obtain ⟨v0, v1, v2, vf0, vf1, vf2⟩ := box3 TC.out; clear hb7)
            | (go_at_call 75; (with_reducible refine (FJ.out ((wa.alloc (.cells #[.pointer none, .string ⟨#[]⟩, .slice none 0 0] 120)).alloc (.cells #[.string ⟨#[99, 111, 117, 110, 116, 46, 105, 110, 100, 101, 120]⟩, .int .i64 1, .int .i64 (j : Int), .string ⟨#[]⟩, .slice none 0 0] 41)).drew (below_drew (below_al (below_al (Below.refl wa.heap.size wa) _) _))).mono ?_); rintro e w7 ⟨rfl, hb7⟩; have RB := Lib.hid (show w7.heap[wa.heap.size + 1]? = some (Obj.cells #[.string ⟨#[99, 111, 117, 110, 116, 46, 105, 110, 100, 101, 120]⟩, .int .i64 1, .int .i64 (j : Int), .string ⟨#[]⟩, .slice none 0 0] 41 (0, 0)) from (hb7.block (wa.heap.size + 1) (show wa.heap.size + 1 < ((wa.heap.push _).push _).size by rw [Array.size_push, Array.size_push]; omega)).trans (heap_at (w := wa.alloc (.cells #[.pointer none, .string ⟨#[]⟩, .slice none 0 0] 120)) (O := (.cells #[.string ⟨#[99, 111, 117, 110, 116, 46, 105, 110, 100, 101, 120]⟩, .int .i64 1, .int .i64 (j : Int), .string ⟨#[]⟩, .slice none 0 0] 41)) (show wa.heap.size + 1 = (wa.heap.push _).size by rw [Array.size_push]))); have B7 := Lib.hid (below_tr (w := wa) (below_drew (below_al (below_al (Below.refl wa.heap.size wa) _) _)) hb7); have q0 := hold B7.out d0; have q1 := hold B7.out d1; have q2 := hold B7.out d2; have q3 := hold B7.out d3; have q4 := hold B7.out d4; have TB := Lib.hid (show w7.heap[wa.heap.size]? = some (Obj.cells #[.pointer none, .string ⟨#[]⟩, .slice none 0 0] 120 (0, 0)) from ((hb7.block wa.heap.size (show wa.heap.size < ((wa.heap.push _).push _).size by rw [Array.size_push, Array.size_push]; omega)).trans ((heap_alloc_old (wa.alloc (.cells #[.pointer none, .string ⟨#[]⟩, .slice none 0 0] 120)) (.cells #[.string ⟨#[99, 111, 117, 110, 116, 46, 105, 110, 100, 101, 120]⟩, .int .i64 1, .int .i64 (j : Int), .string ⟨#[]⟩, .slice none 0 0] 41) (show wa.heap.size < (wa.heap.push _).size by rw [Array.size_push]; omega)).trans (heap_alloc_new wa (.cells #[.pointer none, .string ⟨#[]⟩, .slice none 0 0] 120))))); obtain ⟨t0, t1, t2, tf0, tf1, tf2⟩ := box3 TB.out; have TC := Lib.hid (show (w7.alloc (.cells #[.string ⟨#[99, 111, 117, 110, 116, 46, 105, 110, 100, 101, 120]⟩, .int .i64 1, .int .i64 (j : Int), .string ⟨#[]⟩, .slice none 0 0] 41)).heap[wa.heap.size]? = _ from (heap_alloc_old w7 (.cells #[.string ⟨#[99, 111, 117, 110, 116, 46, 105, 110, 100, 101, 120]⟩, .int .i64 1, .int .i64 (j : Int), .string ⟨#[]⟩, .slice none 0 0] 41) (Array.getElem?_eq_some_iff.1 TB.out).1).trans TB.out); obtain ⟨v0, v1, v2, vf0, vf1, vf2⟩ := box3 TC.out; clear hb7)
            | (go_at_call 75; (with_reducible refine (FJ.out ((wa.alloc (.cells #[.string ⟨#[99, 111, 117, 110, 116, 46, 105, 110, 100, 101, 120]⟩, .int .i64 1, .int .i64 (j : Int), .string ⟨#[]⟩, .slice none 0 0] 41)).alloc (.cells #[.pointer none, .string ⟨#[]⟩, .slice none 0 0] 120)).drew (below_drew (below_al (below_al (Below.refl wa.heap.size wa) _) _))).mono ?_); rintro e w7 ⟨rfl, hb7⟩; have RB := Lib.hid (show w7.heap[wa.heap.size]? = some (Obj.cells #[.string ⟨#[99, 111, 117, 110, 116, 46, 105, 110, 100, 101, 120]⟩, .int .i64 1, .int .i64 (j : Int), .string ⟨#[]⟩, .slice none 0 0] 41 (0, 0)) from (hb7.block wa.heap.size (show wa.heap.size < ((wa.heap.push _).push _).size by rw [Array.size_push, Array.size_push]; omega)).trans ((heap_alloc_old (wa.alloc (.cells #[.string ⟨#[99, 111, 117, 110, 116, 46, 105, 110, 100, 101, 120]⟩, .int .i64 1, .int .i64 (j : Int), .string ⟨#[]⟩, .slice none 0 0] 41)) (.cells #[.pointer none, .string ⟨#[]⟩, .slice none 0 0] 120) (show wa.heap.size < (wa.heap.push _).size by rw [Array.size_push]; omega)).trans (heap_alloc_new wa (.cells #[.string ⟨#[99, 111, 117, 110, 116, 46, 105, 110, 100, 101, 120]⟩, .int .i64 1, .int .i64 (j : Int), .string ⟨#[]⟩, .slice none 0 0] 41)))); have B7 := Lib.hid (below_tr (w := wa) (below_drew (below_al (below_al (Below.refl wa.heap.size wa) _) _)) hb7); have q0 := hold B7.out d0; have q1 := hold B7.out d1; have q2 := hold B7.out d2; have q3 := hold B7.out d3; have q4 := hold B7.out d4; have TB := Lib.hid (show w7.heap[(wa.heap.size + 1)]? = some (Obj.cells #[.pointer none, .string ⟨#[]⟩, .slice none 0 0] 120 (0, 0)) from ((hb7.block (wa.heap.size + 1) (show wa.heap.size + 1 < ((wa.heap.push _).push _).size by rw [Array.size_push, Array.size_push]; omega)).trans (heap_at (w := wa.alloc (.cells #[.string ⟨#[99, 111, 117, 110, 116, 46, 105, 110, 100, 101, 120]⟩, .int .i64 1, .int .i64 (j : Int), .string ⟨#[]⟩, .slice none 0 0] 41)) (O := (.cells #[.pointer none, .string ⟨#[]⟩, .slice none 0 0] 120)) (show wa.heap.size + 1 = (wa.heap.push _).size by rw [Array.size_push])))); obtain ⟨t0, t1, t2, tf0, tf1, tf2⟩ := box3 TB.out; have TC := Lib.hid (show (w7.alloc (.cells #[.string ⟨#[99, 111, 117, 110, 116, 46, 105, 110, 100, 101, 120]⟩, .int .i64 1, .int .i64 (j : Int), .string ⟨#[]⟩, .slice none 0 0] 41)).heap[(wa.heap.size + 1)]? = _ from (heap_alloc_old w7 (.cells #[.string ⟨#[99, 111, 117, 110, 116, 46, 105, 110, 100, 101, 120]⟩, .int .i64 1, .int .i64 (j : Int), .string ⟨#[]⟩, .slice none 0 0] 41) (Array.getElem?_eq_some_iff.1 TB.out).1).trans TB.out); obtain ⟨v0, v1, v2, vf0, vf1, vf2⟩ := box3 TC.out; clear hb7))
          all_goals first
            | refine at_w (out1 (tc := fun R => #[.pointer (some ⟨p, 0, none⟩), .string (nm0 ++ ⟨#[45]⟩ ++ it), .slice (some ⟨R, 0, none⟩) 1 1]) (rc := fun _ => #[.string ⟨#[99, 111, 117, 110, 116, 46, 105, 110, 100, 101, 120]⟩, .int .i64 1, .int .i64 (j : Int), .string ⟨#[]⟩, .slice none 0 0]) B7.out) ?_
            | refine at_w (out2 (tc := fun R => #[.pointer (some ⟨p, 0, none⟩), .string (nm0 ++ ⟨#[45]⟩ ++ it), .slice (some ⟨R, 0, none⟩) 1 1]) (rc := fun _ => #[.string ⟨#[99, 111, 117, 110, 116, 46, 105, 110, 100, 101, 120]⟩, .int .i64 1, .int .i64 (j : Int), .string ⟨#[]⟩, .slice none 0 0]) B7.out) ?_
            | refine at_w (out4 (tc := fun R => #[.pointer (some ⟨p, 0, none⟩), .string (nm0 ++ ⟨#[45]⟩ ++ it), .slice (some ⟨R, 0, none⟩) 1 1]) (rc := fun _ => #[.string ⟨#[99, 111, 117, 110, 116, 46, 105, 110, 100, 101, 120]⟩, .int .i64 1, .int .i64 (j : Int), .string ⟨#[]⟩, .slice none 0 0]) B7.out TB.out RB.out (by omega) rfl) ?_
            | refine at_w (out4 (tc := fun R => #[.pointer (some ⟨p, 0, none⟩), .string (nm0 ++ ⟨#[45]⟩ ++ it), .slice (some ⟨R, 0, none⟩) 1 1]) (rc := fun _ => #[.string ⟨#[99, 111, 117, 110, 116, 46, 105, 110, 100, 101, 120]⟩, .int .i64 1, .int .i64 (j : Int), .string ⟨#[]⟩, .slice none 0 0]) (below_al B7.out _) TC.out (heap_alloc_new _ _) (by omega) rfl) ?_
            | refine at_w (out3 (tc := fun R => #[.pointer (some ⟨p, 0, none⟩), .string (nm0 ++ ⟨#[45]⟩ ++ it), .slice (some ⟨R, 0, none⟩) 1 1]) (rc := fun _ => #[.string ⟨#[99, 111, 117, 110, 116, 46, 105, 110, 100, 101, 120]⟩, .int .i64 1, .int .i64 (j : Int), .string ⟨#[]⟩, .slice none 0 0]) B7.out RB.out) ?_
          all_goals (
            intro W8 h8
            obtain ⟨hB8, hT8, hR8⟩ := h8
            have s0' := cell_of_row _ _ 0 _ _ _ hT8
            have s1' := cell_of_row _ _ 1 _ _ _ hT8
            have s2' := cell_of_row _ _ 2 _ _ _ hT8
            simp at s0' s1' s2'
            have NB8 := Lib.hid ((hB8.block _ (Array.getElem?_eq_some_iff.1 NBb.out).1).trans NBb.out)
            have e0 := cell_of_row _ _ 0 _ _ _ NB8.out
            have e1 := cell_of_row _ _ 1 _ _ _ NB8.out
            have e2 := cell_of_row _ _ 2 _ _ _ NB8.out
            have e3 := cell_of_row _ _ 3 _ _ _ NB8.out
            simp at e0 e1 e2 e3
            have PT := Lib.hid (turn_calls (ST.out (nameI nm0 j) (idxB j) s W8 _ (.inr ⟨j, by omega, rfl⟩) (BE.out s wa W8 IB.out hB8) (idx_rd hR8)) (show nameI nm0 j = nm0 ++ ⟨#[45]⟩ ++ it by unfold nameI; rw [IT.out]))
            unfold turnV blkV at PT
            clear hB8 hT8 hR8 d0 d1 d2 d3 d4 q0 q1 q2 q3 q4 z0 z1 z2 z3 hz5 z6 z7 NE1 NE2
            try clear t0 t1 t2 tf0 tf1 tf2 v0 v1 v2 vf0 vf1 vf2
            go_wp2_with fail
            refine PT.out.mono ?_
            rintro e w9 ⟨rfl, hi9, hf9⟩
            have NB9 := Lib.hid ((hf9.block _ (Array.getElem?_eq_some_iff.1 NB8.out).1 (by simp) (fun c t f hc => by
              rw [NB8.out] at hc
              simp only [Option.some.injEq, Obj.cells.injEq] at hc
              obtain ⟨-, rfl, -⟩ := hc
              exact ⟨by decide, by decide⟩)).trans NB8.out)
            have I9 := Lib.hid hi9
            clear hi9 hf9 PT NB8 e0 e1 e2 e3 s0' s1' s2'
            by_cases hse : (step (nameI nm0 j) (idxB j) s).1 = 0
            · have ge : ((step (nameI nm0 j) (idxB j) s).1 != 0) = false := by simpa using hse
              have NX := Lib.hid (show turnsL step nm0 ((List.range n).drop (j + 1)) (step (nameI nm0 j) (idxB j) s).2 = turnsL step nm0 (List.range n) s0 by rw [← HJ.out, DR.out, turnsL_ok hse])
              clear hse
              go_wp2_with fail
              go_roundg (n - (j + 1))
              case rel => exact ⟨j + 1, _, rfl, Nat.le_refl _, hjl, I9, NB9, NX⟩
              case measure => have := HM.out; omega
            · have ge : ((step (nameI nm0 j) (idxB j) s).1 != 0) = true := by simpa using hse
              have NX := Lib.hid (show turnsL step nm0 (List.range n) s0 = step (nameI nm0 j) (idxB j) s by rw [← HJ.out, DR.out, turnsL_err hse])
              clear hse
              go_wp2_with fail
              go_ret
              rw [E.out, NX.out]
              exact ⟨rfl, I9.out⟩)
        · have hz : j = n := by omega
          subst hz
          have NX := Lib.hid (show turnsL step (pf ++ b.label) (List.range j) s0 = (0, s) by rw [← HJ.out, List.drop_of_length_le (by simp)]; rfl)
          go_wp2_with fail
          go_ret
          rw [E.out, NX.out]
          exact ⟨rfl, IS.out⟩
    · have gc : ((countR (V ns)).2 != 0) = true := by simpa using hc
      have E := Lib.hid (show turnsR V step pf b s0 = ((countR (V ns)).2, s0) by unfold turnsR; rw [hat2.out]; dsimp only; rw [if_pos hc])
      clear hc hw hi
      go_wp2_with fail
      go_ret
      rw [E.out]
      exact ⟨rfl, I3.out⟩
end
end Go.Proofs.YtndeihmclecmcaaGreatDoor
