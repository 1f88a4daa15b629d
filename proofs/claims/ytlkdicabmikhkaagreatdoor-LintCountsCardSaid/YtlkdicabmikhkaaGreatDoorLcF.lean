/- Literals of the law of counted names, as they lie; a block that is still written. -/
import Derived.Test.YtlkdicabmikhkaaGreatDoorLcE
import Derived.Test.YtlkdicabmikhkaaGreatDoorLiLb
namespace Go.Proofs.YtlkdicabmikhkaaGreatDoor
open Go.RowKit Go.Sort
set_option linter.unusedVariables false
set_option linter.unusedSimpArgs false
theorem info_attr : (Tryz.prog.info? 38).map (fun i => (i.zero, i.size, i.bytes)) = some (some (.agg #[.string ⟨#[]⟩, .slice none 0 0]), 2, 40) := by kernel_rfl
theorem attr_lit {w : World} {G g : Nat} {x : ByteArray} {e : List NodeL} (h : w.heap[G]? = some (.cells #[.string x, .slice (some ⟨g, 0, none⟩) 1 1] 38)) (he : NodesRd w (.slice (some ⟨g, 0, none⟩) 1 1) e) (hl : e.length = 1) : AttrsRd w (.slice (some ⟨G, 0, none⟩) 1 1) [(x, e)] := ⟨_, _, rfl, fun i a hi => by
  obtain rfl : i = 0 := by have := (List.getElem?_eq_some_iff.1 hi).1; simpa using this
  obtain rfl : (x, e) = a := by simpa using hi
  have c0 := cell_of_row _ _ 0 _ _ _ h
  have c1 := cell_of_row _ _ 1 _ _ _ h
  exact ⟨G, 0, some ⟨g, 0, none⟩, 1, rfl, by simpa using c0, by rw [hl]; simpa using c1, by rw [hl]; exact he⟩⟩
theorem strP_rd {w : World} {g gp : Nat} {s : ByteArray} (h1 : w.heap[gp]? = some (.cells #[.bool false, .string s] 31)) (h : w.heap[g]? = some (.cells #[.int .i64 2, .int .i64 0, .string ⟨#[]⟩, .slice (some ⟨gp, 0, none⟩) 1 1, .slice none 0 0] 35)) : NodesRd w (.slice (some ⟨g, 0, none⟩) 1 1) (strP s) :=
  nodesLi (ns := strP s) h ⟨.slice (some ⟨gp, 0, none⟩) 1 1, .slice none 0 0, [], rfl, partsLi (ps := [(false, s)]) h1 rfl, ⟨none, 0, rfl, fun j u hj => by simp [kidCells] at hj⟩, rfl⟩
theorem strR_rd {w : World} {g gp : Nat} {s : ByteArray} (h1 : w.heap[gp]? = some (.cells #[.bool false, .string ⟨#[120]⟩, .bool true, .string s] 31)) (h : w.heap[g]? = some (.cells #[.int .i64 2, .int .i64 0, .string ⟨#[]⟩, .slice (some ⟨gp, 0, none⟩) 2 2, .slice none 0 0] 35)) : NodesRd w (.slice (some ⟨g, 0, none⟩) 1 1) (strR s) :=
  nodesLi (ns := strR s) h ⟨.slice (some ⟨gp, 0, none⟩) 2 2, .slice none 0 0, [], rfl, partsLi (ps := [(false, ⟨#[120]⟩), (true, s)]) h1 rfl, ⟨none, 0, rfl, fun j u hj => by simp [kidCells] at hj⟩, rfl⟩
theorem refN_rd {w : World} {g : Nat} {s : ByteArray} (h : w.heap[g]? = some (.cells #[.int .i64 4, .int .i64 0, .string s, .slice none 0 0, .slice none 0 0] 35)) : NodesRd w (.slice (some ⟨g, 0, none⟩) 1 1) (refN s) :=
  nodesLi (ns := refN s) h ⟨.slice none 0 0, .slice none 0 0, [], rfl, ⟨none, 0, rfl, fun j u hj => by simp [partCells] at hj⟩, ⟨none, 0, rfl, fun j u hj => by simp [kidCells] at hj⟩, rfl⟩
theorem num0_rd {w : World} {g : Nat} (h : w.heap[g]? = some (.cells #[.int .i64 1, .int .i64 0, .string ⟨#[]⟩, .slice none 0 0, .slice none 0 0] 35)) : NodesRd w (.slice (some ⟨g, 0, none⟩) 1 1) num0 :=
  nodesLi (ns := num0) h ⟨.slice none 0 0, .slice none 0 0, [], rfl, ⟨none, 0, rfl, fun j u hj => by simp [partCells] at hj⟩, ⟨none, 0, rfl, fun j u hj => by simp [kidCells] at hj⟩, rfl⟩
theorem news_at {w : World} {G : Nat} (h : w.heap.size = G) (cs : Array Value) (t : TypeId) : ∀ j u, cs.toList[j]? = some u → (w.alloc (.cells cs t)).cell? ((⟨G, 0, none⟩ : Addr).add j) = some u := by
  subst h
  exact news_new w cs t
/-- A block of the law's own at gn, whose attributes are still written. -/
structure SAt (w : World) (gn : Nat) (k : Int) (s : ByteArray) (v : Value) : Prop where
  c0 : w.cell? ⟨gn, 0, none⟩ = some (.int .i64 k)
  c1 : w.cell? ⟨gn, 1, none⟩ = some (.string s)
  c2 : w.cell? ⟨gn, 2, none⟩ = some v
  c3 : w.cell? ⟨gn, 3, none⟩ = some (.slice none 0 0)
  f2 : w.frozen? ⟨gn, 2, none⟩ = false
theorem SAt.lt {w : World} {gn : Nat} {k : Int} {s : ByteArray} {v : Value} (h : SAt w gn k s v) : gn < w.heap.size := World.block_lt_of_cell? _ _ h.c0
theorem SAt.new {w : World} {gn : Nat} {k : Int} {s : ByteArray} {v : Value} {t : TypeId} (h : w.heap[gn]? = some (.cells #[.int .i64 k, .string s, v, .slice none 0 0] t)) : SAt w gn k s v :=
  ⟨by simpa using cell_of_row _ _ 0 _ _ _ h, by simpa using cell_of_row _ _ 1 _ _ _ h, by simpa using cell_of_row _ _ 2 _ _ _ h, by simpa using cell_of_row _ _ 3 _ _ _ h, frozen_of_row _ _ 2 _ _ h⟩
theorem SAt.stay {w w' : World} {gn : Nat} {k : Int} {s : ByteArray} {v : Value} (h : SAt w gn k s v) (hs : w'.heap[gn]? = w.heap[gn]?) : SAt w' gn k s v :=
  ⟨(World.cell?_of_block (a := ⟨gn, 0, none⟩) hs).trans h.c0, (World.cell?_of_block (a := ⟨gn, 1, none⟩) hs).trans h.c1, (World.cell?_of_block (a := ⟨gn, 2, none⟩) hs).trans h.c2, (World.cell?_of_block (a := ⟨gn, 3, none⟩) hs).trans h.c3, (World.frozen?_of_block (a := ⟨gn, 2, none⟩) hs).trans h.f2⟩
theorem SAt.set {w : World} {gn : Nat} {k : Int} {s : ByteArray} {v : Value} (h : SAt w gn k s v) (u : Value) : SAt (w.setCell ⟨gn, 2, none⟩ u) gn k s u :=
  ⟨(World.cell?_setCell_other (w := w) (a := ⟨gn, 2, none⟩) (v := u) (b := ⟨gn, 0, none⟩) (fun e => by simp at e)).trans h.c0, (World.cell?_setCell_other (w := w) (a := ⟨gn, 2, none⟩) (v := u) (b := ⟨gn, 1, none⟩) (fun e => by simp at e)).trans h.c1,
    World.cell?_setCell_same (w := w) (a := ⟨gn, 2, none⟩) (v := u) h.c2, (World.cell?_setCell_other (w := w) (a := ⟨gn, 2, none⟩) (v := u) (b := ⟨gn, 3, none⟩) (fun e => by simp at e)).trans h.c3, by rw [World.frozen?_setCell]; exact h.f2⟩
/-- What lies below the rows stays where one of them grows. -/
theorem grown_low {w w' : World} {B e z n : Nat} {v : Value} {xs : List Value} (ho : w.ownsRow B e z v n xs) (hg : w.grownBy w' v.ownBlock) {k : Nat} (hk : k < B) (hs : k < w.heap.size) : w'.heap[k]? = w.heap[k]? :=
  hg.block k hs fun e => by have := (World.ownsRow.lt ho k e.symm).1; omega
theorem below_set_ge {B : Nat} {a w : World} {g f : Nat} (h : Below B a w) (hg : B ≤ g) (u : Value) : Below B a (w.setCell ⟨g, f, none⟩ u) := h.setCell (p := ⟨g, f, none⟩) hg u
theorem below_row {w wr w' : World} {B e z n : Nat} {v : Value} {xs : List Value} (hb : Below w.heap.size w wr) (ho : wr.ownsRow B e z v n xs) (hB : w.heap.size ≤ B) (hg : wr.grownBy w' v.ownBlock) : Below w.heap.size w w' :=
  below_grown' hb hg fun k hk => Nat.le_trans hB (World.ownsRow.lt ho k hk).1
theorem cont_def {K : Nat → Prop} {w : World} {G j : Nat} (hX : w.heap[G]? = some (.cells #[.int .i64 3, .string ⟨#[120]⟩, .slice none 0 0, .slice none 0 0] 28)) (hK : K G) : Cont K w fun w' => AttrsRd w' (.slice none 0 0) (dB j).attrs ∧ BlksRd 1 w' (.slice (some ⟨G, 0, none⟩) 1 1) (dB j).blocks := fun w' hs => by
  have h := (hs G hK).trans hX
  refine ⟨attrs_none w', ⟨_, _, rfl, fun i b hi => ?_⟩⟩
  obtain rfl : i = 0 := by have := (List.getElem?_eq_some_iff.1 hi).1; simpa [dB, BlkL.blocks] using this
  obtain rfl : xB = b := by simpa [dB, BlkL.blocks] using hi
  exact ⟨G, 0, none, 0, none, 0, rfl, by simpa [xB, BlkL.kind] using cell_of_row _ _ 0 _ _ _ h, by simpa [xB, BlkL.label] using cell_of_row _ _ 1 _ _ _ h, by simpa [xB, BlkL.attrs] using cell_of_row _ _ 2 _ _ _ h, by simpa [xB, BlkL.blocks] using cell_of_row _ _ 3 _ _ _ h, attrs_none w', blks_none 0 w'⟩
theorem cont_use {K : Nat → Prop} {w : World} {G j : Nat} {s : ByteArray} (hs0 : s = nm 100 j) (hP : w.heap[G]? = some (.cells #[.bool false, .string s] 31)) (hN : w.heap[G + 1]? = some (.cells #[.int .i64 2, .int .i64 0, .string ⟨#[]⟩, .slice (some ⟨G, 0, none⟩) 1 1, .slice none 0 0] 35))
    (hA : w.heap[G + 1 + 1]? = some (.cells #[.string ⟨#[117, 115, 101]⟩, .slice (some ⟨G + 1, 0, none⟩) 1 1] 38)) (hK : ∀ k, G ≤ k → k < G + 3 → K k) : Cont K w fun w' => AttrsRd w' (.slice (some ⟨G + 1 + 1, 0, none⟩) 1 1) (uB j).attrs ∧ BlksRd 1 w' (.slice none 0 0) (uB j).blocks := fun w' hs => by
  subst hs0
  exact ⟨attr_lit (x := sUse) (e := strP (nm 100 j)) ((hs _ (hK _ (by omega) (by omega))).trans hA) (strP_rd ((hs _ (hK _ (by omega) (by omega))).trans hP) ((hs _ (hK _ (by omega) (by omega))).trans hN)) rfl, blks_none 1 w'⟩
theorem cont_var {K : Nat → Prop} {w : World} {G j : Nat} (hP : w.heap[G]? = some (.cells #[.bool false, .string ⟨#[105, 110, 116]⟩] 31)) (hN : w.heap[G + 1]? = some (.cells #[.int .i64 2, .int .i64 0, .string ⟨#[]⟩, .slice (some ⟨G, 0, none⟩) 1 1, .slice none 0 0] 35))
    (hA : w.heap[G + 1 + 1]? = some (.cells #[.string ⟨#[116, 121, 112, 101]⟩, .slice (some ⟨G + 1, 0, none⟩) 1 1] 38)) (hK : ∀ k, G ≤ k → k < G + 3 → K k) : Cont K w fun w' => AttrsRd w' (.slice (some ⟨G + 1 + 1, 0, none⟩) 1 1) (vB j).attrs ∧ BlksRd 1 w' (.slice none 0 0) (vB j).blocks := fun w' hs =>
  ⟨attr_lit (x := sType) (e := strP ⟨#[105, 110, 116]⟩) ((hs _ (hK _ (by omega) (by omega))).trans hA) (strP_rd ((hs _ (hK _ (by omega) (by omega))).trans hP) ((hs _ (hK _ (by omega) (by omega))).trans hN)) rfl, blks_none 1 w'⟩
end Go.Proofs.YtlkdicabmikhkaaGreatDoor
