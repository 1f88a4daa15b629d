/- The blocks of the law of modules that may mean any define, as they lie. -/
import Derived.Test.YtlkdicabmikhkaaGreatDoorLiLa
namespace Go.Proofs.YtlkdicabmikhkaaGreatDoor
open Go.RowKit Go.Sort
set_option linter.unusedVariables false
set_option linter.unusedSimpArgs false
theorem nodesLi {w : World} {g cap : Nat} {ns : List NodeL} {xs : Array Value} {t : TypeId} (h : w.heap[g]? = some (.cells xs t (0, 0))) (hr : NodesRow w ns xs.toList) : NodesRd w (.slice (some ⟨g, 0, none⟩) ns.length cap) ns :=
  ⟨xs.toList, ⟨some ⟨g, 0, none⟩, cap, rfl, fun j u hj => ⟨g, 0, rfl, by rw [Nat.zero_add, cell_of_row w g j xs t (0, 0) h]; simpa using hj⟩⟩, hr⟩
theorem partsLi {w : World} {g cap : Nat} {ps : List PartL} {xs : Array Value} {t : TypeId} (h : w.heap[g]? = some (.cells xs t (0, 0))) (hx : xs.toList = partCells ps) : PartsRd w (.slice (some ⟨g, 0, none⟩) ps.length cap) ps :=
  ⟨some ⟨g, 0, none⟩, cap, rfl, fun j u hj => ⟨g, 0, rfl, by rw [Nat.zero_add, cell_of_row w g j xs t (0, 0) h, ← Array.getElem?_toList, hx]; exact hj⟩⟩
theorem heapLo {w : World} {o o' : Obj} {k : Nat} (h : w.heap[k]? = some o) : (w.alloc o').heap[k]? = some o := by
  have hk := (Array.getElem?_eq_some_iff.1 h).1
  exact ((below_al (Below.refl w.heap.size w) o').block k hk).trans h
theorem heapAt {w : World} {o : Obj} {k : Nat} (h : w.heap.size = k) : (w.alloc o).heap[k]? = some o := by subst h; exact heap_alloc_new w o
theorem heapStill {w w' : World} {lo k : Nat} {o : Obj} (h : w.heap[k]? = some o) (hk : lo ≤ k) (hs : ∀ k, lo ≤ k → k < w.heap.size → w'.heap[k]? = w.heap[k]?) : w'.heap[k]? = some o := (hs k hk (Array.getElem?_eq_some_iff.1 h).1).trans h
/-- An expression of the law as it lies, in blocks from lo on. -/
def EBox (w : World) (lo g : Nat) (e : List NodeL) : Prop := lo ≤ g ∧
  ((e = e0 ∧ w.heap[g]? = some (.cells #[.int .i64 4, .int .i64 0, .string sIdx, .slice none 0 0, .slice none 0 0] 35)) ∨
   (e = e1 ∧ ∃ gp, lo ≤ gp ∧ w.heap[gp]? = some (.cells #[.bool false, .string ⟨#[100]⟩, .bool true, .string sIdx] 31) ∧ w.heap[g]? = some (.cells #[.int .i64 2, .int .i64 0, .string ⟨#[]⟩, .slice (some ⟨gp, 0, none⟩) 2 2, .slice none 0 0] 35)) ∨
   (e = e2 ∧ w.heap[g]? = some (.cells #[.int .i64 2, .int .i64 0, .string ⟨#[]⟩, .slice none 0 0, .slice none 0 0] 35)))
theorem EBox.ok {w : World} {lo g : Nat} {e : List NodeL} (h : EBox w lo g e) : EOk e := by
  rcases h.2 with ⟨h, -⟩ | ⟨h, -⟩ | ⟨h, -⟩
  · exact .inl h
  · exact .inr (.inl h)
  · exact .inr (.inr h)
theorem EBox.keep {w w' : World} {lo g : Nat} {e : List NodeL} (h : EBox w lo g e) (hs : ∀ k, lo ≤ k → k < w.heap.size → w'.heap[k]? = w.heap[k]?) : EBox w' lo g e := by
  obtain ⟨h0, h⟩ := h
  refine ⟨h0, ?_⟩
  rcases h with ⟨h1, h2⟩ | ⟨h1, gp, h2, h3, h4⟩ | ⟨h1, h2⟩
  · exact .inl ⟨h1, heapStill h2 h0 hs⟩
  · exact .inr (.inl ⟨h1, gp, h2, heapStill h3 h2 hs, heapStill h4 h0 hs⟩)
  · exact .inr (.inr ⟨h1, heapStill h2 h0 hs⟩)
theorem EBox.rd {w : World} {lo g : Nat} {e : List NodeL} (h : EBox w lo g e) : NodesRd w (.slice (some ⟨g, 0, none⟩) 1 1) e := by
  rcases h.2 with ⟨rfl, hh⟩ | ⟨rfl, gp, -, h1, hh⟩ | ⟨rfl, hh⟩
  · exact nodesLi (ns := e0) hh ⟨.slice none 0 0, .slice none 0 0, [], rfl, ⟨none, 0, rfl, fun j u hj => by simp [partCells] at hj⟩, ⟨none, 0, rfl, fun j u hj => by simp [kidCells] at hj⟩, rfl⟩
  · exact nodesLi (ns := e1) hh ⟨.slice (some ⟨gp, 0, none⟩) 2 2, .slice none 0 0, [], rfl, partsLi (ps := [(false, ⟨#[100]⟩), (true, sIdx)]) h1 rfl, ⟨none, 0, rfl, fun j u hj => by simp [kidCells] at hj⟩, rfl⟩
  · exact nodesLi (ns := e2) hh ⟨.slice none 0 0, .slice none 0 0, [], rfl, ⟨none, 0, rfl, fun j u hj => by simp [partCells] at hj⟩, ⟨none, 0, rfl, fun j u hj => by simp [kidCells] at hj⟩, rfl⟩
theorem attr_of {w : World} {lo G g : Nat} {e : List NodeL} (h : w.heap[G]? = some (.cells #[.string ⟨#[117, 115, 101]⟩, .slice (some ⟨g, 0, none⟩) 1 1] 38)) (he : EBox w lo g e) : AttrsRd w (.slice (some ⟨G, 0, none⟩) 1 1) [(sUse, e)] := ⟨_, _, rfl, fun i a hi => by
  obtain rfl : i = 0 := by have := (List.getElem?_eq_some_iff.1 hi).1; simpa using this
  obtain rfl : (sUse, e) = a := by simpa using hi
  have c0 := cell_of_row _ _ 0 _ _ _ h
  have c1 := cell_of_row _ _ 1 _ _ _ h
  have e1 : e.length = 1 := by rcases he.ok with rfl | rfl | rfl <;> rfl
  exact ⟨G, 0, some ⟨g, 0, none⟩, 1, rfl, by simpa [sUse] using c0, by rw [e1]; simpa using c1, by rw [e1]; exact he.rd⟩⟩
theorem still_grown {w w9 : World} {o : Obj} {v : Value} {lo : Nat} (hg : (w.alloc o).grownBy w9 v.ownBlock) (hr : ∀ k, v.ownBlock = some k → k < lo) : ∀ k, lo ≤ k → k < w.heap.size → w9.heap[k]? = w.heap[k]? := fun k h1 h2 =>
  (hg.block k (by simp; omega) (fun e => by have := hr k e.symm; omega)).trans ((below_al (Below.refl w.heap.size w) o).block k h2)
theorem still_set {w : World} {o : Obj} {u : Value} {gl f lo : Nat} (hg : gl < lo) : ∀ k, lo ≤ k → k < w.heap.size → ((w.setCell ⟨gl, f, none⟩ u).alloc o).heap[k]? = w.heap[k]? := fun k h1 h2 => by
  have hb : Below w.heap.size (w.setCell ⟨gl, f, none⟩ u) ((w.setCell ⟨gl, f, none⟩ u).alloc o) := by
    have := below_al (Below.refl (w.setCell ⟨gl, f, none⟩ u).heap.size (w.setCell ⟨gl, f, none⟩ u)) o
    simpa using this
  rw [hb.block k h2]
  exact Below.heap_setCell w ⟨gl, f, none⟩ u k (by show k ≠ gl; omega)
/-- The row of defines, and an expression. -/
def ERel (w : World) (lo j : Nat) (so : Option Addr) (sc : Nat) (s5 s7 : Value) (w' : World) : Prop :=
  s5 = .slice so j sc ∧ Below w.heap.size w w' ∧ w'.ownsRow w.heap.size 28 4 (.slice so j sc) j ((List.range j).flatMap dCells) ∧ ∃ (g : Nat) (e : List NodeL), s7 = .slice (some ⟨g, 0, none⟩) 1 1 ∧ EBox w' lo g e
theorem dcells_len (j : Nat) : ((List.range j).flatMap dCells).length = j * 4 := by
  induction j with
  | zero => rfl
  | succ j ih => rw [range_snoc, List.length_append, ih]; simp [dCells]; omega
theorem dcells_at {j i r : Nat} (hi : i < j) (hr : r < 4) : ((List.range j).flatMap dCells)[i * 4 + r]? = (dCells i)[r]? := by
  induction j with
  | zero => omega
  | succ j ih =>
    rw [range_snoc]
    have hl := dcells_len j
    by_cases h : i < j
    · rw [List.getElem?_append_left (by omega)]
      exact ih h
    · obtain rfl : i = j := by omega
      rw [List.getElem?_append_right (by omega), hl]
      congr 1
      omega
theorem attrs_none (w : World) : AttrsRd w (.slice none ([] : List (ByteArray × List NodeL)).length 0) [] := ⟨none, 0, rfl, fun i a h => by simp at h⟩
theorem blks_none (d : Nat) (w : World) : BlksRd d w (.slice none ([] : List BlkL).length 0) [] := by
  cases d with
  | zero => exact ⟨rfl, none, 0, rfl⟩
  | succ d => exact ⟨none, 0, rfl, fun i a h => by simp at h⟩
/-- A module as it lies in a block. -/
theorem mod_rd {w : World} {g ga : Nat} {e : List NodeL} {d : Nat} (c0 : w.cell? ⟨g, 0, none⟩ = some (.int .i64 4)) (c1 : w.cell? ⟨g, 1, none⟩ = some (.string ⟨#[109]⟩)) (c2 : w.cell? ⟨g, 2, none⟩ = some (.slice (some ⟨ga, 0, none⟩) 1 1)) (c3 : w.cell? ⟨g, 3, none⟩ = some (.slice none 0 0))
    (ha : AttrsRd w (.slice (some ⟨ga, 0, none⟩) 1 1) [(sUse, e)]) : BlksRd (d + 1) w (.slice (some ⟨g, 0, none⟩) 1 1) [modB e] := by
  refine ⟨_, _, rfl, fun i b hi => ?_⟩
  obtain rfl : i = 0 := by have := (List.getElem?_eq_some_iff.1 hi).1; simpa using this
  obtain rfl : modB e = b := by simpa using hi
  exact ⟨g, 0, some ⟨ga, 0, none⟩, 1, none, 0, rfl, by simpa [modB, defB, BlkL.kind, BlkL.label, BlkL.attrs, BlkL.blocks] using c0, by simpa [modB, defB, BlkL.kind, BlkL.label, BlkL.attrs, BlkL.blocks] using c1, by simpa [modB, defB, BlkL.kind, BlkL.label, BlkL.attrs, BlkL.blocks] using c2, by simpa [modB, defB, BlkL.kind, BlkL.label, BlkL.attrs, BlkL.blocks] using c3, ha, blks_none d w⟩
def bl1 (e : List NodeL) (j : Nat) : List BlkL := (List.range j).map fun i => if i = 0 then defB 0 [modB e] else defB i []
def bl2 (e : List NodeL) (j : Nat) : List BlkL := ((List.range j).map fun i => defB i []) ++ [modB e]
theorem law_bl1 (e : List NodeL) {j : Nat} (h : 0 < j) (h6 : j < 6) : LawL e (bl1 e j) := by
  refine ⟨by simp [bl1]; omega, fun b hb => ?_, .inr ?_⟩
  · obtain ⟨i, hi, rfl⟩ := List.mem_map.1 hb
    have := List.mem_range.1 hi
    by_cases h0 : i = 0
    · rw [if_pos h0]; exact .inr (.inr rfl)
    · rw [if_neg h0]; exact .inr (.inl ⟨i, by omega, rfl⟩)
  · exact List.mem_map.2 ⟨0, List.mem_range.2 h, rfl⟩
theorem law_bl2 (e : List NodeL) {j : Nat} (h6 : j < 6) : LawL e (bl2 e j) := by
  refine ⟨by simp [bl2]; omega, fun b hb => ?_, .inl (by simp [bl2])⟩
  rcases List.mem_append.1 hb with hb | hb
  · obtain ⟨i, hi, rfl⟩ := List.mem_map.1 hb
    have := List.mem_range.1 hi
    exact .inr (.inl ⟨i, by omega, rfl⟩)
  · exact .inl (by simpa using hb)
/-- The row whose first define has a module. -/
theorem rd_bl1 {w : World} {gl j sc gs : Nat} {e : List NodeL} (hj : 0 < j) (hc : ∀ i, i < j → ∀ r, r < 4 → ¬ (i = 0 ∧ r = 3) → w.cell? ⟨gl, i * 4 + r, none⟩ = (dCells i)[r]?) (h3 : w.cell? ⟨gl, 3, none⟩ = some (.slice (some ⟨gs, 0, none⟩) 1 1)) (hm : BlksRd 1 w (.slice (some ⟨gs, 0, none⟩) 1 1) [modB e]) :
    BlksRd 2 w (.slice (some ⟨gl, 0, none⟩) j sc) (bl1 e j) := by
  refine ⟨some ⟨gl, 0, none⟩, sc, by simp [bl1], fun i b hi => ?_⟩
  have hij : i < j := by have := (List.getElem?_eq_some_iff.1 hi).1; simpa [bl1] using this
  unfold bl1 at hi
  rw [List.getElem?_map, List.getElem?_range hij] at hi
  have hb : b = if i = 0 then defB 0 [modB e] else defB i [] := by simpa using hi.symm
  have k0 := hc i hij 0 (by omega) (by omega)
  have k1 := hc i hij 1 (by omega) (by omega)
  have k2 := hc i hij 2 (by omega) (by omega)
  by_cases h0 : i = 0
  · subst h0
    rw [if_pos rfl] at hb
    subst hb
    exact ⟨gl, 0, none, 0, some ⟨gs, 0, none⟩, 1, rfl, by simpa [dCells, modB, defB, BlkL.kind, BlkL.label, BlkL.attrs, BlkL.blocks] using k0, by simpa [dCells, modB, defB, BlkL.kind, BlkL.label, BlkL.attrs, BlkL.blocks] using k1, by simpa [dCells, modB, defB, BlkL.kind, BlkL.label, BlkL.attrs, BlkL.blocks] using k2, by simpa [modB, defB, BlkL.kind, BlkL.label, BlkL.attrs, BlkL.blocks] using h3, attrs_none w, hm⟩
  · have k3 := hc i hij 3 (by omega) (by omega)
    rw [if_neg h0] at hb
    subst hb
    exact ⟨gl, 0, none, 0, none, 0, rfl, by simpa [dCells, modB, defB, BlkL.kind, BlkL.label, BlkL.attrs, BlkL.blocks] using k0, by simpa [dCells, modB, defB, BlkL.kind, BlkL.label, BlkL.attrs, BlkL.blocks] using k1, by simpa [dCells, modB, defB, BlkL.kind, BlkL.label, BlkL.attrs, BlkL.blocks] using k2, by simpa [dCells, modB, defB, BlkL.kind, BlkL.label, BlkL.attrs, BlkL.blocks] using k3, attrs_none w, blks_none 1 w⟩
/-- The row behind which a module stands. -/
theorem rd_bl2 {w : World} {B j ga : Nat} {v : Value} {e : List NodeL} (ho : w.ownsRow B 28 4 v (j + 1) ((List.range j).flatMap dCells ++ [.int .i64 4, .string ⟨#[109]⟩, .slice (some ⟨ga, 0, none⟩) 1 1, .slice none 0 0])) (ha : AttrsRd w (.slice (some ⟨ga, 0, none⟩) 1 1) [(sUse, e)]) :
    BlksRd 2 w v (bl2 e j) := by
  rcases ho.2 with ⟨-, h0⟩ | ⟨g, cap, cur, rfl, -⟩
  · omega
  have hl := dcells_len j
  have hc : ∀ i r, i < j → r < 4 → w.cell? ⟨g, i * 4 + r, none⟩ = (dCells i)[r]? := fun i r hi hr => by
    rw [World.ownsRow.cellAt ho _ (by omega), List.getElem?_append_left (by omega)]
    exact dcells_at hi hr
  have hd : ∀ r, r < 4 → w.cell? ⟨g, j * 4 + r, none⟩ = ([.int .i64 4, .string ⟨#[109]⟩, .slice (some ⟨ga, 0, none⟩) 1 1, .slice none 0 0] : List Value)[r]? := fun r hr => by
    rw [World.ownsRow.cellAt ho _ (by omega), List.getElem?_append_right (by omega), hl]
    congr 1
    omega
  refine ⟨some ⟨g, 0, none⟩, cap, by simp [bl2], fun i b hi => ?_⟩
  have hij : i < j + 1 := by have := (List.getElem?_eq_some_iff.1 hi).1; simpa [bl2] using this
  unfold bl2 at hi
  by_cases h : i < j
  · rw [List.getElem?_append_left (by simpa using h), List.getElem?_map, List.getElem?_range h] at hi
    obtain rfl : defB i [] = b := by simpa using hi
    have k0 := hc i 0 h (by omega)
    have k1 := hc i 1 h (by omega)
    have k2 := hc i 2 h (by omega)
    have k3 := hc i 3 h (by omega)
    exact ⟨g, 0, none, 0, none, 0, rfl, by simpa [dCells, modB, defB, BlkL.kind, BlkL.label, BlkL.attrs, BlkL.blocks] using k0, by simpa [dCells, modB, defB, BlkL.kind, BlkL.label, BlkL.attrs, BlkL.blocks] using k1, by simpa [dCells, modB, defB, BlkL.kind, BlkL.label, BlkL.attrs, BlkL.blocks] using k2, by simpa [dCells, modB, defB, BlkL.kind, BlkL.label, BlkL.attrs, BlkL.blocks] using k3, attrs_none w, blks_none 1 w⟩
  · obtain rfl : i = j := by omega
    rw [List.getElem?_append_right (by simp)] at hi
    obtain rfl : modB e = b := by simpa using hi
    have k0 := hd 0 (by omega)
    have k1 := hd 1 (by omega)
    have k2 := hd 2 (by omega)
    have k3 := hd 3 (by omega)
    exact ⟨g, 0, some ⟨ga, 0, none⟩, 1, none, 0, rfl, by simp [modB, defB, BlkL.kind, BlkL.label, BlkL.attrs, BlkL.blocks], by simp [modB, defB, BlkL.kind, BlkL.label, BlkL.attrs, BlkL.blocks], by simp [modB, defB, BlkL.kind, BlkL.label, BlkL.attrs, BlkL.blocks], by simp [modB, defB, BlkL.kind, BlkL.label, BlkL.attrs, BlkL.blocks], ha, blks_none 1 w⟩
def AyRel (w : World) (n : Nat) (m : Nat) (sv iv : Value) (wr : World) : Prop :=
  ∃ j : Nat, iv = .int .i64 j ∧ n - j ≤ m ∧ j ≤ n ∧ Below w.heap.size w wr ∧ wr.ownsRow w.heap.size 28 4 sv j ((List.range j).flatMap dCells)
end Go.Proofs.YtlkdicabmikhkaaGreatDoor
