/- Package val: clone at any depth; List; Index of a list at a number. -/
import Derived.Test.YtdaphajnioiakaaGreatDoorValP
import Derived.Test.YtdaphajnioiakaaGreatDoorValH
namespace Go.Proofs.YtdaphajnioiakaaGreatDoor
open Go.RowKit
set_option linter.unusedVariables false
set_option linter.unusedSimpArgs false

/-- As RowRd, all blocks of which P holds. -/
def RowIn (w : World) (P : Nat → Prop) : Nat → List VL → Value → Prop
  | 0, l, lv => l = [] ∧ ∃ ao cap, lv = .slice ao 0 cap
  | D + 1, l, lv => l.length ≤ maxLen ∧ ∃ ao cap, lv = .slice ao l.length cap ∧ ∀ (i : Nat) (u : VL), l[i]? = some u → ∃ (g o : Nat) (lu : Value), ao = some ⟨g, o, none⟩ ∧ P g ∧
      w.cell? ⟨g, o + i * 4, none⟩ = some (.int .i64 u.kind) ∧ w.cell? ⟨g, o + i * 4 + 1, none⟩ = some (.int .i64 u.num) ∧ w.cell? ⟨g, o + i * 4 + 2, none⟩ = some (.string u.text) ∧ w.cell? ⟨g, o + i * 4 + 3, none⟩ = some lu ∧ RowIn w P D u.kids lu
theorem RowIn.rd {w : World} {P : Nat → Prop} : ∀ {D : Nat} {l : List VL} {lv : Value}, RowIn w P D l lv → RowRd w D l lv := by
  intro D
  induction D with
  | zero => intro l lv h; exact h
  | succ D ih =>
    intro l lv h
    obtain ⟨hl, ao, cap, rfl, hc⟩ := h
    refine ⟨hl, ao, cap, rfl, fun i u hu => ?_⟩
    obtain ⟨g, o, lu, e, -, c0, c1, c2, c3, hr⟩ := hc i u hu
    exact ⟨g, o, lu, e, c0, c1, c2, c3, ih hr⟩
theorem RowIn.keep {w w' : World} {P Q : Nat → Prop} (hP : ∀ g, P g → Q g) (hk : ∀ (g o : Nat) (u : Value), P g → w.cell? ⟨g, o, none⟩ = some u → w'.cell? ⟨g, o, none⟩ = some u) :
    ∀ {D : Nat} {l : List VL} {lv : Value}, RowIn w P D l lv → RowIn w' Q D l lv := by
  intro D
  induction D with
  | zero => intro l lv h; exact h
  | succ D ih =>
    intro l lv h
    obtain ⟨hl, ao, cap, rfl, hc⟩ := h
    refine ⟨hl, ao, cap, rfl, fun i u hu => ?_⟩
    obtain ⟨g, o, lu, e, hp, c0, c1, c2, c3, hr⟩ := hc i u hu
    exact ⟨g, o, lu, e, hP g hp, hk _ _ _ hp c0, hk _ _ _ hp c1, hk _ _ _ hp c2, hk _ _ _ hp c3, ih hr⟩
/-- One value of the row at g has been stored: x becomes y. -/
structure Upd (x y : World) (g i : Nat) (p : VL × Value) : Prop where
  os : y.os = x.os
  tape : y.tape = x.tape
  output : y.output = x.output
  size : y.heap.size = x.heap.size
  block : ∀ b, b ≠ g → y.heap[b]? = x.heap[b]?
  cell : ∀ o, (o < i * 4 ∨ i * 4 + 4 ≤ o) → y.cell? ⟨g, o, none⟩ = x.cell? ⟨g, o, none⟩
  new0 : y.cell? ⟨g, i * 4, none⟩ = some (.int .i64 p.1.kind)
  new1 : y.cell? ⟨g, i * 4 + 1, none⟩ = some (.int .i64 p.1.num)
  new2 : y.cell? ⟨g, i * 4 + 2, none⟩ = some (.string p.1.text)
  new3 : y.cell? ⟨g, i * 4 + 3, none⟩ = some p.2
  frozen : ∀ o, y.frozen? ⟨g, o, none⟩ = x.frozen? ⟨g, o, none⟩
theorem Upd.drewN {x y : World} {g i : Nat} {p : VL × Value} (h : Upd x y g i p) (n : Nat) : Upd x (y.drewN n) g i p := ⟨h.os, h.tape, h.output, h.size, h.block, h.cell, h.new0, h.new1, h.new2, h.new3, h.frozen⟩
theorem Upd.drew {x y : World} {g i : Nat} {p : VL × Value} (h : Upd x y g i p) : Upd x y.drew g i p := ⟨h.os, h.tape, h.output, h.size, h.block, h.cell, h.new0, h.new1, h.new2, h.new3, h.frozen⟩
theorem set_cell_ne (w : World) (g o o' : Nat) (u : Value) (h : o' ≠ o) : (w.setCell ⟨g, o, none⟩ u).cell? ⟨g, o', none⟩ = w.cell? ⟨g, o', none⟩ :=
  World.cell?_setCell_other _ _ _ _ (by intro e; injection e with e1 e2; exact h (by first | exact e2 | exact e2.symm))
theorem set_cell_eq {w : World} {g o : Nat} {u0 : Value} (u : Value) (h : w.cell? ⟨g, o, none⟩ = some u0) : (w.setCell ⟨g, o, none⟩ u).cell? ⟨g, o, none⟩ = some u := by
  exact World.cell?_setCell_same w ⟨g, o, none⟩ u h
theorem upd4 {x : World} {g i : Nat} {p : VL × Value} {a b c d : Value} (h0 : x.cell? ⟨g, i * 4, none⟩ = some a) (h1 : x.cell? ⟨g, i * 4 + 1, none⟩ = some b) (h2 : x.cell? ⟨g, i * 4 + 2, none⟩ = some c) (h3 : x.cell? ⟨g, i * 4 + 3, none⟩ = some d) :
    Upd x ((((x.setCell ⟨g, i * 4, none⟩ (.int .i64 p.1.kind)).setCell ⟨g, i * 4 + 1, none⟩ (.int .i64 p.1.num)).setCell ⟨g, i * 4 + 2, none⟩ (.string p.1.text)).setCell ⟨g, i * 4 + 3, none⟩ p.2) g i p := by
  refine ⟨rfl, rfl, rfl, by simp [World.setCell], fun b hb => ?_, fun o ho => ?_, ?_, ?_, ?_, ?_, fun o => ?_⟩
  · rw [Below.heap_setCell _ _ _ _ hb, Below.heap_setCell _ _ _ _ hb, Below.heap_setCell _ _ _ _ hb, Below.heap_setCell _ _ _ _ hb]
  · rw [set_cell_ne _ _ _ _ _ (by omega), set_cell_ne _ _ _ _ _ (by omega), set_cell_ne _ _ _ _ _ (by omega), set_cell_ne _ _ _ _ _ (by omega)]
  · rw [set_cell_ne _ _ _ _ _ (by omega), set_cell_ne _ _ _ _ _ (by omega), set_cell_ne _ _ _ _ _ (by omega)]
    exact set_cell_eq _ h0
  · rw [set_cell_ne _ _ _ _ _ (by omega), set_cell_ne _ _ _ _ _ (by omega)]
    exact set_cell_eq _ ((set_cell_ne _ _ _ _ _ (by omega)).trans h1)
  · rw [set_cell_ne _ _ _ _ _ (by omega)]
    exact set_cell_eq _ (((set_cell_ne _ _ _ _ _ (by omega)).trans (set_cell_ne _ _ _ _ _ (by omega))).trans h2)
  · exact set_cell_eq _ ((((set_cell_ne _ _ _ _ _ (by omega)).trans (set_cell_ne _ _ _ _ _ (by omega))).trans (set_cell_ne _ _ _ _ _ (by omega))).trans h3)
  · rw [World.frozen?_setCell, World.frozen?_setCell, World.frozen?_setCell, World.frozen?_setCell]
theorem Upd.below {x y w : World} {g i : Nat} {p : VL × Value} (h : Upd x y g i p) (hg : w.heap.size ≤ g) (hb : Below w.heap.size w x) : Below w.heap.size w y :=
  ⟨h.os.trans hb.os, h.tape.trans hb.tape, h.output.trans hb.output, by rw [h.size]; exact hb.size, fun b hlt => (h.block b (by omega)).trans (hb.block b hlt)⟩
theorem Upd.far {x y : World} {g i : Nat} {p : VL × Value} (h : Upd x y g i p) {b o : Nat} {u : Value} (hb : b ≠ g) (hc : x.cell? ⟨b, o, none⟩ = some u) : y.cell? ⟨b, o, none⟩ = some u :=
  (World.cell?_of_block (a := ⟨b, o, none⟩) (h.block b hb)).trans hc
theorem Upd.row {x y : World} {g i : Nat} {p : VL × Value} (h : Upd x y g i p) {qs : List (VL × Value)} (hq : CellsAt x g 0 qs) (hi : i < qs.length) : CellsAt y g 0 (qs.set i p) := by
  intro j q hj
  by_cases e : j = i
  · subst e
    rw [List.getElem?_set_self hi] at hj
    cases hj
    simp only [Nat.zero_add]
    exact ⟨h.new0, h.new1, h.new2, h.new3⟩
  · rw [List.getElem?_set_ne (by omega)] at hj
    obtain ⟨c0, c1, c2, c3⟩ := hq j q hj
    simp only [Nat.zero_add] at c0 c1 c2 c3 ⊢
    exact ⟨(h.cell _ (by omega)).trans c0, (h.cell _ (by omega)).trans c1, (h.cell _ (by omega)).trans c2, (h.cell _ (by omega)).trans c3⟩
end Go.Proofs.YtdaphajnioiakaaGreatDoor
namespace Go.Proofs.YtdaphajnioiakaaGreatDoor
open Go.RowKit
set_option linter.unusedVariables false
set_option linter.unusedSimpArgs false

theorem may_kids {d : Nat} {v : VL} (h : mayB d v = true) : v.kids.length ≤ 64 ∧ ∀ u ∈ v.kids, mayB (d - 1) u = true := by
  have leaf : leafB v = true → v.kids.length ≤ 64 ∧ ∀ u ∈ v.kids, mayB (d - 1) u = true := by
    intro h
    have h0 : v.kids.length = 0 := by
      unfold leafB at h
      split at h
      · simp at h; exact (by simp [h.2])
      · split at h
        · simp at h; exact (by simp [h.2])
        · split at h
          · simp at h; exact (by simp [h.2])
          · cases h
    have hk : v.kids = [] := List.eq_nil_of_length_eq_zero h0
    rw [hk]
    exact ⟨by simp, fun u hu => by simp at hu⟩
  cases d with
  | zero => exact leaf h
  | succ d =>
    unfold mayB at h
    split at h
    · simp only [Bool.and_eq_true, decide_eq_true_eq, List.all_eq_true] at h
      exact ⟨h.1.2, fun u hu => h.2 u hu⟩
    · exact leaf h
def Cloned (D : Nat) (v : VL) (w : World) (e : Ending) (w' : World) : Prop := ∃ lv, e = .returned (.agg #[.int .i64 v.kind, .int .i64 v.num, .string v.text, lv]) ∧ RowIn w' (fun g => w.heap.size ≤ g) D v.kids lv ∧ Below w.heap.size w w'
def CloneOf (D : Nat) : Prop := ∀ (d : Nat) (v : VL) (lv : Value) (w : World), RowRd w D v.kids lv → mayB d v = true → Calls Tryz.prog 54 #[.agg #[.int .i64 v.kind, .int .i64 v.num, .string v.text, lv]] w (Cloned D v w)
theorem CloneOf.call {D : Nat} (h : CloneOf D) (d : Nat) (v : VL) (lv : Value) (w : World) (hr : RowRd w D v.kids lv) (hm : mayB d v = true) : Calls Tryz.prog 54 #[.agg #[.int .i64 v.kind, .int .i64 v.num, .string v.text, lv]] w (Cloned D v w) := h d v lv w hr hm
structure CInv (w wr : World) (D : Nat) (v : VL) (v' : Value) (g i : Nat) (qs : List (VL × Value)) : Prop where
  kept : Below w.heap.size w wr
  box : VBlk wr w.heap.size v v'
  res : NBlk wr (w.heap.size + 1) 0 0 ⟨#[]⟩
  fst : qs.map (·.1) = v.kids
  cells : CellsAt wr g 0 qs
  frozen : ∀ o, wr.frozen? ⟨g, o, none⟩ = false
  low : w.heap.size + 2 ≤ g
  high : g < wr.heap.size
  done : ∀ j p, qs[j]? = some p → j < i → RowIn wr (fun b => w.heap.size + 2 ≤ b ∧ b ≠ g) (D - 1) p.1.kids p.2
  todo : ∀ j p, qs[j]? = some p → i ≤ j → RowRd w (D - 1) p.1.kids p.2
theorem CInv.next {w wr w'' wx : World} {D g i : Nat} {v u : VL} {v' lu : Value} {qs : List (VL × Value)} (h : CInv w wr D v v' g i qs) (hi : i < qs.length) (hu : v.kids[i]? = some u) (hb : Below wr.heap.size wr w'') (hin : RowIn w'' (fun b => wr.heap.size ≤ b) (D - 1) u.kids lu) (hx : Upd w'' wx g i (u, lu)) :
    CInv w wx D v v' g (i + 1) (qs.set i (u, lu)) := by
  have hlow := h.low
  have hhigh := h.high
  have hsz := h.kept.size
  have far : ∀ b, b ≠ g → b < wr.heap.size → wx.heap[b]? = wr.heap[b]? := fun b hne hlt => (hx.block b hne).trans (hb.block b hlt)
  refine ⟨hx.below (by omega) (below_tr h.kept hb), ?_, ?_, ?_, ?_, fun o => ?_, hlow, ?_, fun j p hj hji => ?_, fun j p hj hji => ?_⟩
  · exact (far _ (by omega) h.box.lt).trans h.box
  · exact (far _ (by omega) h.res.lt).trans h.res
  · rw [List.map_set, h.fst]
    apply List.ext_getElem?
    intro k
    by_cases e : k = i
    · subst e; rw [List.getElem?_set_self (by have := (List.getElem?_eq_some_iff.1 hu).1; exact this), hu]
    · rw [List.getElem?_set_ne (by omega)]
  · exact hx.row (fun j q hj => by
      obtain ⟨c0, c1, c2, c3⟩ := h.cells j q hj
      exact ⟨hold hb c0, hold hb c1, hold hb c2, hold hb c3⟩) hi
  · rw [hx.frozen o]
    exact (hb.frozen (p := ⟨g, o, none⟩) hhigh).trans (h.frozen o)
  · rw [hx.size]; exact Nat.lt_of_lt_of_le hhigh hb.size
  · by_cases e : j = i
    · subst e
      rw [List.getElem?_set_self hi] at hj
      cases hj
      exact RowIn.keep (fun b hb' => ⟨by omega, by omega⟩) (fun b o z hb' hz => hx.far (by omega) hz) hin
    · rw [List.getElem?_set_ne (by omega)] at hj
      exact RowIn.keep (fun b hb' => hb') (fun b o z hb' hz => hx.far hb'.2 (hold hb hz)) (h.done j p hj (by omega))
  · rw [List.getElem?_set_ne (by omega)] at hj
    exact h.todo j p hj (by omega)
theorem CInv.whole {w wr : World} {D g : Nat} {v : VL} {qs : List (VL × Value)} {cap : Nat} (h : CInv w wr D v (.slice (some ⟨g, 0, none⟩) v.kids.length cap) g v.kids.length qs) (hD : 0 < D) (hl : v.kids.length ≤ maxLen) :
    RowIn wr (fun b => w.heap.size + 2 ≤ b) D v.kids (.slice (some ⟨g, 0, none⟩) v.kids.length cap) := by
  obtain ⟨D, rfl⟩ : ∃ E, D = E + 1 := ⟨D - 1, by omega⟩
  refine ⟨hl, _, _, rfl, fun i u hu => ?_⟩
  have hlen : qs.length = v.kids.length := by rw [← h.fst]; simp
  obtain ⟨p, hp⟩ : ∃ p, qs[i]? = some p := ⟨_, List.getElem?_eq_getElem (by have := (List.getElem?_eq_some_iff.1 hu).1; omega)⟩
  have hpu : p.1 = u := by
    have h2 := h.fst
    have h3 : (qs.map (·.1))[i]? = some p.1 := by rw [List.getElem?_map, hp]; rfl
    rw [h2, hu] at h3
    exact (Option.some.inj h3).symm
  obtain ⟨c0, c1, c2, c3⟩ := h.cells i p hp
  rw [hpu] at c0 c1 c2
  have hin := h.done i p hp (by have := (List.getElem?_eq_some_iff.1 hu).1; omega)
  rw [hpu] at hin
  exact ⟨g, 0, p.2, rfl, h.low, c0, c1, c2, c3, RowIn.keep (fun b hb => hb.1) (fun b o z _ hz => hz) hin⟩
end Go.Proofs.YtdaphajnioiakaaGreatDoor
namespace Go.Proofs.YtdaphajnioiakaaGreatDoor
open Go.RowKit
set_option linter.unusedVariables false
set_option linter.unusedSimpArgs false

theorem VBlk.free {w : World} {g : Nat} {v : VL} {lv : Value} (h : VBlk w g v lv) (o : Nat) : w.frozen? ⟨g, o, none⟩ = false := by
  have h : w.heap[g]? = some (.cells #[.int .i64 v.kind, .int .i64 v.num, .string v.text, lv] 50 (0, 0)) := h
  simp [World.frozen?, h]
theorem VBlk.set3 {w : World} {g : Nat} {v : VL} {lv : Value} (h : VBlk w g v lv) (x : Value) : VBlk (w.setCell ⟨g, 3, none⟩ x) g v x := heap_setCell_same w g 3 _ _ x h
theorem NBlk.far {w : World} {g : Nat} {k n : Int} {s : ByteArray} (h : NBlk w g k n s) {p : Addr} (hp : g ≠ p.block) (x : Value) : NBlk (w.setCell p x) g k n s := (Below.heap_setCell _ _ _ _ hp).trans h
section
variable (w : World)
set_option maxHeartbeats 4000000 in
set_option maxRecDepth 20000 in
theorem vclone_step (D : Nat) (hC : 0 < D → CloneOf (D - 1)) : CloneOf D := by
  intro d v lv w hr hm
  obtain ⟨hk64, hkm⟩ := may_kids hm
  have HKM := Lib.hid hkm
  have HR := Lib.hid hr
  have hC0 := Lib.hid hC
  have hl := hr.len
  obtain ⟨lao, lcap, rfl⟩ := hr.shape
  clear hr hC hkm hm
  go_enter Tryz.func54, Tryz.ntmps54
  go_wp2_with fail
  have VB := Lib.hid ((VBlk.new w v (.slice lao v.kids.length lcap)).below (below_al (Below.refl _ _) (.cells #[.int .i64 0, .int .i64 0, .string ⟨#[]⟩, .slice none 0 0] 50)))
  have RB := Lib.hid (NBlk.new (w.alloc (.cells #[.int .i64 v.kind, .int .i64 v.num, .string v.text, .slice lao v.kids.length lcap] 50)) 0 0 ⟨#[]⟩)
  rw [show (w.alloc (.cells #[.int .i64 v.kind, .int .i64 v.num, .string v.text, .slice lao v.kids.length lcap] 50)).heap.size = w.heap.size + 1 by simp] at RB
  have K := Lib.hid (show Kept w _ from below_al (below_al (Below.refl w.heap.size w) (.cells #[.int .i64 v.kind, .int .i64 v.num, .string v.text, .slice lao v.kids.length lcap] 50)) (.cells #[.int .i64 0, .int .i64 0, .string ⟨#[]⟩, .slice none 0 0] 50))
  have SZ := Lib.hid (show ((w.alloc (.cells #[.int .i64 v.kind, .int .i64 v.num, .string v.text, .slice lao v.kids.length lcap] 50)).alloc (.cells #[.int .i64 0, .int .i64 0, .string ⟨#[]⟩, .slice none 0 0] 50)).heap.size = w.heap.size + 2 by simp)
  generalize (w.alloc (.cells #[.int .i64 v.kind, .int .i64 v.num, .string v.text, .slice lao v.kids.length lcap] 50)).alloc (.cells #[.int .i64 0, .int .i64 0, .string ⟨#[]⟩, .slice none 0 0] 50) = wb at *
  have KW : Below w.heap.size w wb := K.out
  (with_reducible refine (vsclone wb w KW D v.kids _ HR.out hk64).mono ?_)
  clear KW
  rintro e w1 ⟨v', ps, rfl, p1, p2, nr, hb⟩
  replace VB := Lib.hid (VB.out.below hb)
  replace RB := Lib.hid (RB.out.below hb)
  replace K := Lib.hid (kept_tr K.out hb)
  have KB := Lib.hid hb
  have NR := Lib.hid nr
  have P2 := Lib.hid p2
  have P1 := Lib.hid p1
  obtain ⟨y0, y1, y2, y3⟩ := VB.out.cells
  have y4 := VB.out.free 3
  have hlen : ps.length = v.kids.length := by rw [← p1]; simp
  have LEN := Lib.hid hlen
  unfold maxLen at hl
  clear p1 p2 hb hlen
  rcases nr with ⟨e0, ao', cap', rfl⟩ | ⟨e0, g, cap', rfl, hgl, hgh, hcl, hfr⟩
  · have hn : v.kids.length = 0 := by rw [← LEN.out, e0]; rfl
    have hk0 : v.kids = [] := List.eq_nil_of_length_eq_zero hn
    have HK0 := Lib.hid hk0
    clear NR P2 P1 e0 hn hk0 LEN
    go_wp2_with fail
    replace VB := Lib.hid (VB.out.set3 (.slice ao' 0 cap'))
    replace RB := Lib.hid (RB.out.far (p := ⟨w.heap.size, 3, none⟩) (by simp) (.slice ao' 0 cap'))
    replace K := Lib.hid (show Kept w _ from Below.setCell K.out (p := ⟨w.heap.size, 3, none⟩) (Nat.le_refl _) (.slice ao' 0 cap'))
    clear y0 y1 y2 y3 y4
    generalize w1.setCell ⟨w.heap.size, 3, none⟩ (.slice ao' 0 cap') = wa at *
    go_loopg [11] 0 (fun m iv wr => iv = .int .i64 0 ∧ wa = wr)
    case atStart => exact ⟨rfl, rfl⟩
    case round =>
      obtain ⟨rfl, rfl⟩ := hrel
      obtain ⟨y0, y1, y2, y3⟩ := VB.out.cells
      obtain ⟨⟨r0, r1, r2, r3, rl⟩, f0, f1, f2, f3⟩ := RB.out.full
      go_wp2_with fail
      refine bodyPost_ret (v := .agg #[.int .i64 v.kind, .int .i64 v.num, .string v.text, .slice ao' 0 cap']) (by simp [results, Tryz.results54, go_sem, r0, r1, r2, r3]) rfl ?_
      refine ⟨_, rfl, ?_, below_set4 K.out (Nat.le_succ _) _ _ _ _⟩
      rw [HK0.out]
      cases D with
      | zero => exact ⟨rfl, _, _, rfl⟩
      | succ D => exact ⟨Nat.zero_le _, _, _, rfl, fun i u hu => by simp at hu⟩
  · have INV : CInv w (w1.setCell ⟨w.heap.size, 3, none⟩ (.slice (some ⟨g, 0, none⟩) v.kids.length cap')) D v (.slice (some ⟨g, 0, none⟩) v.kids.length cap') g 0 ps := by
      have hs := SZ.out
      refine ⟨Below.setCell K.out (p := ⟨w.heap.size, 3, none⟩) (Nat.le_refl _) _, VB.out.set3 _, RB.out.far (p := ⟨w.heap.size, 3, none⟩) (by simp) _, P1.out, fun j q hj => ?_, fun o => ?_, by omega, by simpa [World.setCell] using hgh, fun j q hj hji => absurd hji (Nat.not_lt_zero _), fun j q hj _ => (P2.out q (List.mem_of_getElem? hj)).2⟩
      · obtain ⟨c0, c1, c2, c3⟩ := hcl j q hj
        have hne : ∀ o, (⟨w.heap.size, 3, none⟩ : Addr) ≠ ⟨g, o, none⟩ := fun o e => by injection e with e1 e2; omega
        exact ⟨(World.cell?_setCell_other _ _ _ _ (hne _)).trans c0, (World.cell?_setCell_other _ _ _ _ (hne _)).trans c1, (World.cell?_setCell_other _ _ _ _ (hne _)).trans c2, (World.cell?_setCell_other _ _ _ _ (hne _)).trans c3⟩
      · rw [World.frozen?_setCell]; exact hfr o
    have hD : 0 < D := by
      obtain ⟨q, hq⟩ := List.exists_mem_of_ne_nil ps e0
      exact (P2.out q hq).1
    have HD := Lib.hid hD
    have CC := Lib.hid (hC0.out hD)
    have IN := Lib.hid INV
    have HL := Lib.hid hl
    rw [LEN.out]
    clear NR hgl hgh hcl hfr e0 INV hD
    go_wp2_with fail
    clear y0 y1 y2 y3 y4
    generalize w1.setCell ⟨w.heap.size, 3, none⟩ (.slice (some ⟨g, 0, none⟩) v.kids.length cap') = wa at *
    go_loopg [11] v.kids.length (fun m iv wr => ∃ (i : Nat) (qs : List (VL × Value)), iv = .int .i64 i ∧ v.kids.length - i ≤ m ∧ i ≤ v.kids.length ∧ CInv w wr D v (.slice (some ⟨g, 0, none⟩) v.kids.length cap') g i qs)
    case atStart => exact ⟨0, ps, rfl, Nat.le_refl _, Nat.zero_le _, IN.out⟩
    case round =>
      obtain ⟨i, qs, rfl, hm, hi, inv⟩ := hrel
      have HM := Lib.hid hm
      have IV := Lib.hid inv
      obtain ⟨y0, y1, y2, y3⟩ := inv.box.cells
      obtain ⟨⟨r0, r1, r2, r3, rl⟩, f0, f1, f2, f3⟩ := inv.res.full
      clear hm inv IN
      by_cases hil : i < v.kids.length
      · obtain ⟨u, hu⟩ : ∃ u, v.kids[i]? = some u := ⟨_, List.getElem?_eq_getElem hil⟩
        have hql : qs.length = v.kids.length := by have h := congrArg List.length IV.out.fst; simpa using h
        obtain ⟨q, hq⟩ : ∃ q, qs[i]? = some q := ⟨_, List.getElem?_eq_getElem (by omega)⟩
        have hqu : q.1 = u := by
          have h3 : (qs.map (·.1))[i]? = some q.1 := by rw [List.getElem?_map, hq]; rfl
          rw [IV.out.fst, hu] at h3
          exact (Option.some.inj h3).symm
        obtain ⟨c0, c1, c2, c3⟩ := IV.out.cells i q hq
        have hrd := IV.out.todo i q hq (Nat.le_refl _)
        rw [hqu] at c0 c1 c2 hrd
        simp only [Nat.zero_add] at c0 c1 c2 c3
        obtain ⟨uao, ucap, eu⟩ := hrd.shape
        rw [eu] at c3 hrd
        have hmu := HKM.out u (List.mem_of_getElem? hu)
        have C1 := Lib.hid (fun W (hw : Below wr.heap.size wr W) => CC.out.call (d - 1) u _ W (hrd.below (below_tr IV.out.kept hw)) hmu)
        have HU := Lib.hid hu
        have QL := Lib.hid hql
        have z0 := IV.out.frozen (i * 4)
        have z1 := IV.out.frozen (i * 4 + 1)
        have z2 := IV.out.frozen (i * 4 + 2)
        have z3 := IV.out.frozen (i * 4 + 3)
        have hgh := IV.out.high
        clear hu hql hq hqu hrd eu hmu
        go_upto_region 5 with fail
        go_region_with (go_at_call 54; refine (C1.out _ ?_).mono ?_; (repeat (first | with_reducible exact Below.refl _ _ | with_reducible refine below_drew ?_ | with_reducible refine below_drewN ?_ _)); rintro e w2 ⟨lu, rfl, hin, hb⟩; obtain ⟨ulao, ulcap, eul⟩ := hin.rd.shape; subst eul; have HIN := Lib.hid (RowIn.keep (Q := fun b => wr.heap.size ≤ b) (fun g hg => hg) (fun _ _ _ _ h => h) hin); have HB := Lib.hid (show Below wr.heap.size wr w2 from ⟨hb.os, hb.tape, hb.output, hb.size, hb.block⟩); have k3 := hold HB.out y3; have d0 := hold HB.out c0; have d1 := hold HB.out c1; have d2 := hold HB.out c2; have d3 := hold HB.out c3; have x0 := (HB.out.frozen (p := ⟨g, i * 4, none⟩) hgh).trans z0; have x1 := (HB.out.frozen (p := ⟨g, i * 4 + 1, none⟩) hgh).trans z1; have x2 := (HB.out.frozen (p := ⟨g, i * 4 + 2, none⟩) hgh).trans z2; have x3 := (HB.out.frozen (p := ⟨g, i * 4 + 3, none⟩) hgh).trans z3; clear hin hb)
        all_goals go_wp2
        all_goals go_roundg (v.kids.length - (i + 1))
        all_goals first
          | (case rel =>
              have UP := upd4 (p := (u, .slice ulao u.kids.length ulcap)) d0 d1 d2 d3
              have hlt : i < qs.length := by rw [QL.out]; exact hil
              have NX := IV.out.next hlt HU.out HB.out HIN.out UP
              dsimp only at NX
              exact ⟨i + 1, qs.set i (u, .slice ulao u.kids.length ulcap), by go_num, Nat.le_refl _, hil, NX⟩)
          | (case measure => have := HM.out; omega)
      · have hin : i = v.kids.length := by omega
        have IV2 := IV.out
        rw [hin] at IV2
        have WH := Lib.hid (CInv.whole IV2 HD.out HL.out)
        clear IV2
        have KR := Lib.hid IV.out.kept
        go_wp2_with fail
        refine bodyPost_ret (v := .agg #[.int .i64 v.kind, .int .i64 v.num, .string v.text, .slice (some ⟨g, 0, none⟩) v.kids.length cap']) (by simp [results, Tryz.results54, go_sem, r0, r1, r2, r3]) rfl ?_
        refine ⟨_, rfl, RowIn.keep (fun b hb => by omega) (fun b o z hb hz => ?_) WH.out, below_set4 KR.out (Nat.le_succ _) _ _ _ _⟩
        have hne : ∀ k, (⟨w.heap.size + 1, k, none⟩ : Addr) ≠ ⟨b, o, none⟩ := fun k e => by injection e with e1 e2; omega
        rw [World.cell?_setCell_other _ _ _ _ (hne _), World.cell?_setCell_other _ _ _ _ (hne _), World.cell?_setCell_other _ _ _ _ (hne _), World.cell?_setCell_other _ _ _ _ (hne _)]
        exact hz
end
end Go.Proofs.YtdaphajnioiakaaGreatDoor
namespace Go.Proofs.YtdaphajnioiakaaGreatDoor
open Go.RowKit
set_option linter.unusedVariables false
set_option linter.unusedSimpArgs false

theorem vclone : ∀ D, CloneOf D := by
  intro D
  induction D with
  | zero => exact vclone_step 0 (fun h => absurd h (Nat.lt_irrefl _))
  | succ D ih => exact vclone_step (D + 1) (fun _ => ih)
/-- What a call tells that answers a value in memory of its own. -/
def Gives (D : Nat) (k n : Int) (s : ByteArray) (l : List VL) (w : World) (e : Ending) (w' : World) : Prop :=
  ∃ lv, e = .returned (.tuple #[.agg #[.int .i64 k, .int .i64 n, .string s, lv], .int .i64 0]) ∧ RowIn w' (fun g => w.heap.size ≤ g) D l lv ∧ Below w.heap.size w w'
theorem set4_in {w : World} {P : Nat → Prop} {D g : Nat} {l : List VL} {lv : Value} (h : RowIn w P D l lv) (hg : ¬ P g) (a b c d : Value) :
    RowIn ((((w.setCell ⟨g, 0, none⟩ a).setCell ⟨g, 1, none⟩ b).setCell ⟨g, 2, none⟩ c).setCell ⟨g, 3, none⟩ d) P D l lv := by
  refine RowIn.keep (fun _ h => h) (fun b o z hb hz => ?_) h
  have hne : ∀ k, (⟨g, k, none⟩ : Addr) ≠ ⟨b, o, none⟩ := fun k e => by injection e with e1 e2; rw [e1] at hg; exact hg hb
  rw [World.cell?_setCell_other _ _ _ _ (hne _), World.cell?_setCell_other _ _ _ _ (hne _), World.cell?_setCell_other _ _ _ _ (hne _), World.cell?_setCell_other _ _ _ _ (hne _)]
  exact hz
section
variable (w : World)
set_option maxHeartbeats 2000000 in
set_option maxRecDepth 20000 in
theorem vlist_bad (D : Nat) (l : List VL) (lv : Value) (h : RowRd w D l lv) (hm : mayB 64 (vlist l) = false) : Calls Tryz.prog 39 #[lv] w (IsTold 0 0 ⟨#[]⟩ 4 w) := by
  have M := Lib.hid (fun W (hw : Below w.heap.size w W) => by have := vMay W D (vlist l) lv (h.below hw); rw [hm] at this; exact this)
  obtain ⟨lao, lcap, rfl⟩ := h.shape
  clear h hm
  go_enter Tryz.func39, Tryz.ntmps39
  go_wp2_with fail
  refine (M.out _ ?_).mono ?_
  · exact below_al (below_al (Below.refl _ _) _) _
  rintro e w1 ⟨rfl, hb1⟩
  obtain ⟨⟨r0, r1, r2, r3, rl⟩, f0, f1, f2, f3⟩ := (((NBlk.new w 0 0 ⟨#[]⟩).al (.cells #[.int .i64 4, .int .i64 0, .string ⟨#[]⟩, .slice lao l.length lcap] 50)).below hb1).full
  have B1 := Lib.hid (below_tr (below_al (below_al (Below.refl _ _) _) _) hb1)
  clear hb1
  go_wp2_with fail
  exact bodyPost_ret (v := .tuple #[.agg #[.int .i64 0, .int .i64 0, .string ⟨#[]⟩, .slice none 0 0], .int .i64 4]) (by simp [results, Tryz.results39, go_sem, r0, r1, r2, r3]) rfl ⟨rfl, below_set4 B1.out (Nat.le_refl _) _ _ _ _⟩
set_option maxHeartbeats 2000000 in
set_option maxRecDepth 20000 in
theorem vlist_ok (D : Nat) (l : List VL) (lv : Value) (h : RowRd w D l lv) (hm : mayB 64 (vlist l) = true) : Calls Tryz.prog 39 #[lv] w (Gives D 4 0 ⟨#[]⟩ l w) := by
  have M := Lib.hid (fun W (hw : Below w.heap.size w W) => by have := vMay W D (vlist l) lv (h.below hw); rw [hm] at this; exact this)
  have C := Lib.hid (fun W (hw : Below w.heap.size w W) => (vclone D).call 64 (vlist l) lv W (h.below hw) hm)
  obtain ⟨lao, lcap, rfl⟩ := h.shape
  clear h hm
  go_enter Tryz.func39, Tryz.ntmps39
  go_wp2_with fail
  refine (M.out _ ?_).mono ?_
  · exact below_al (below_al (Below.refl _ _) _) _
  rintro e w1 ⟨rfl, hb1⟩
  have X := Lib.hid ((VBlk.new (w.alloc (.cells #[.int .i64 0, .int .i64 0, .string ⟨#[]⟩, .slice none 0 0] 50)) (vlist l) (.slice lao l.length lcap)).below hb1)
  have R := Lib.hid (((NBlk.new w 0 0 ⟨#[]⟩).al (.cells #[.int .i64 4, .int .i64 0, .string ⟨#[]⟩, .slice lao l.length lcap] 50)).below hb1)
  have B1 := Lib.hid (below_tr (below_al (below_al (Below.refl _ _) _) _) hb1)
  rw [show (w.alloc (.cells #[.int .i64 0, .int .i64 0, .string ⟨#[]⟩, .slice none 0 0] 50)).heap.size = w.heap.size + 1 by simp] at X
  clear hb1
  obtain ⟨x0, x1, x2, x3⟩ := X.out.cells
  go_wp2_with fail
  refine (C.out _ B1.out).mono ?_
  rintro e w2 ⟨lv', rfl, hin, hb2⟩
  have hin2 := RowIn.keep (Q := fun g => w1.heap.size ≤ g) (fun g hg => hg) (fun _ _ _ _ h => h) hin
  obtain ⟨lao', lcap', rfl⟩ := hin2.rd.shape
  have HIN := Lib.hid hin2
  obtain ⟨⟨r0, r1, r2, r3, rl⟩, f0, f1, f2, f3⟩ := (R.out.below hb2).full
  have B2 := Lib.hid (below_tr B1.out hb2)
  have hlt := R.out.lt
  clear hin hin2 hb2 x0 x1 x2 x3
  go_wp2_with fail
  refine bodyPost_ret (v := .tuple #[.agg #[.int .i64 4, .int .i64 0, .string ⟨#[]⟩, .slice lao' l.length lcap'], .int .i64 0]) ?_ rfl ⟨.slice lao' l.length lcap', rfl, ?_, below_set4 B2.out (Nat.le_refl _) _ _ _ _⟩
  · simp [results, Tryz.results39, go_sem, r0, r1, r2, r3, vlist, VL.kind, VL.num, VL.text, VL.kids]
  · exact RowIn.keep (fun g hg => by have := B1.out.size; omega) (fun _ _ _ _ h => h) (set4_in HIN.out (by omega) _ _ _ _)
end
end Go.Proofs.YtdaphajnioiakaaGreatDoor
