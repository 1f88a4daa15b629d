/- What the laws of values call besides: the number of an error, numbers as values; operations of numbers; the law's example. -/
import Derived.Test.YtndeihmclecmcaaGreatDoorValG
namespace Go.Proofs.YtndeihmclecmcaaGreatDoor
open Go.RowKit
set_option linter.unusedVariables false
set_option linter.unusedSimpArgs false

/-- A block that holds one value without a list. -/
def NBlk (w : World) (g : Nat) (k n : Int) (s : ByteArray) : Prop := w.heap[g]? = some (.cells #[.int .i64 k, .int .i64 n, .string s, .slice none 0 0] 39 (0, 0))
theorem NBlk.lt {w : World} {g : Nat} {k n : Int} {s : ByteArray} (h : NBlk w g k n s) : g < w.heap.size := by
  rcases Nat.lt_or_ge g w.heap.size with hlt | hge
  · exact hlt
  · unfold NBlk at h; rw [Array.getElem?_eq_none hge] at h; cases h
theorem NBlk.cells {w : World} {g : Nat} {k n : Int} {s : ByteArray} (h : NBlk w g k n s) :
    w.cell? ⟨g, 0, none⟩ = some (.int .i64 k) ∧ w.cell? ⟨g, 1, none⟩ = some (.int .i64 n) ∧ w.cell? ⟨g, 2, none⟩ = some (.string s) ∧ w.cell? ⟨g, 3, none⟩ = some (.slice none 0 0) ∧ g < w.heap.size :=
  ⟨cell_of_row w g 0 _ _ _ h, cell_of_row w g 1 _ _ _ h, cell_of_row w g 2 _ _ _ h, cell_of_row w g 3 _ _ _ h, h.lt⟩
theorem NBlk.below {w w' : World} {g : Nat} {k n : Int} {s : ByteArray} (h : NBlk w g k n s) (hb : Below w.heap.size w w') : NBlk w' g k n s := (hb.block g h.lt).trans h
theorem NBlk.free {w : World} {g : Nat} {k n : Int} {s : ByteArray} (h : NBlk w g k n s) (o : Nat) : w.frozen? ⟨g, o, none⟩ = false := by
  have h : w.heap[g]? = some (.cells #[.int .i64 k, .int .i64 n, .string s, .slice none 0 0] 39 (0, 0)) := h
  simp [World.frozen?, h]
theorem NBlk.full {w : World} {g : Nat} {k n : Int} {s : ByteArray} (h : NBlk w g k n s) :
    (w.cell? ⟨g, 0, none⟩ = some (.int .i64 k) ∧ w.cell? ⟨g, 1, none⟩ = some (.int .i64 n) ∧ w.cell? ⟨g, 2, none⟩ = some (.string s) ∧ w.cell? ⟨g, 3, none⟩ = some (.slice none 0 0) ∧ g < w.heap.size) ∧
    w.frozen? ⟨g, 0, none⟩ = false ∧ w.frozen? ⟨g, 1, none⟩ = false ∧ w.frozen? ⟨g, 2, none⟩ = false ∧ w.frozen? ⟨g, 3, none⟩ = false := ⟨h.cells, h.free 0, h.free 1, h.free 2, h.free 3⟩
theorem NBlk.new (w : World) (k n : Int) (s : ByteArray) : NBlk (w.alloc (.cells #[.int .i64 k, .int .i64 n, .string s, .slice none 0 0] 39)) w.heap.size k n s := heap_alloc_new w _
theorem NBlk.al {w : World} {g : Nat} {k n : Int} {s : ByteArray} (h : NBlk w g k n s) (O : Obj) : NBlk (w.alloc O) g k n s := h.below (below_al (Below.refl _ _) _)
theorem nblk_drew {w : World} {g : Nat} {k n : Int} {s : ByteArray} (h : NBlk w g k n s) : NBlk w.drew g k n s := h
theorem nblk_drewN {w : World} {g : Nat} {k n : Int} {s : ByteArray} (h : NBlk w g k n s) (m : Nat) : NBlk (w.drewN m) g k n s := h
theorem below_set1 {B : Nat} {a w : World} {g o : Nat} (h : Below B a w) (hg : B ≤ g) (u : Value) : Below B a (w.setCell ⟨g, o, none⟩ u) := h.setCell hg u
theorem kept_al {w W : World} (h : Kept w W) (O : Obj) : Kept w (W.alloc O) := below_al h O
theorem kept_tr {w W V : World} (h : Kept w W) (k : Below W.heap.size W V) : Kept w V := below_tr h k
section
variable (w : World)
theorem lnum (n : Int) : Calls Tryz.prog 11 #[.int .i64 n] w fun e w' => e = .returned (.int .i64 n) ∧ w = w' := by
  go_enter Tryz.func11, Tryz.ntmps11
  go_wp2_with fail
  go_ret
  exact ⟨rfl, rfl⟩
/-- What an operation of two numbers tells. -/
def IsTold (k n : Int) (s : ByteArray) (c : Int) (w : World) (e : Ending) (w' : World) : Prop := e = .returned (.tuple #[.agg #[.int .i64 k, .int .i64 n, .string s, .slice none 0 0], .int .i64 c]) ∧ Below w.heap.size w w'
theorem two_ok (k a b r : Int) (hk : 19 ≤ k ∧ k ≤ 23) (ha : I64 a) (hb : I64 b) (h : reckonR k a b = (r, 0)) :
    Calls Tryz.prog 127 #[.int .i64 k, .agg #[.int .i64 1, .int .i64 a, .string ⟨#[]⟩, .slice none 0 0], .agg #[.int .i64 1, .int .i64 b, .string ⟨#[]⟩, .slice none 0 0]] w (IsTold 1 r ⟨#[]⟩ 0 w) := by
  have h1 := vtwo w 0 k (vnum a) (vnum b) nilV nilV (RowRd.nil w 0 none 0) (RowRd.nil w 0 none 0) ha hb
  have e : twoR 0 k (vnum a) (vnum b) = (vnum r, 0) := by
    unfold twoR
    rw [if_neg (by omega), if_neg (by omega), if_neg (by omega), if_pos hk, if_pos ⟨rfl, rfl⟩]
    show numR (reckonR k a b) = _
    rw [h]; rfl
  rw [e] at h1
  exact h1
theorem two_bad (k a b c : Int) (hk : 19 ≤ k ∧ k ≤ 23) (ha : I64 a) (hb : I64 b) (h : reckonR k a b = (0, c)) (hc : c ≠ 0) :
    Calls Tryz.prog 127 #[.int .i64 k, .agg #[.int .i64 1, .int .i64 a, .string ⟨#[]⟩, .slice none 0 0], .agg #[.int .i64 1, .int .i64 b, .string ⟨#[]⟩, .slice none 0 0]] w (IsTold 0 0 ⟨#[]⟩ c w) := by
  have h1 := vtwo w 0 k (vnum a) (vnum b) nilV nilV (RowRd.nil w 0 none 0) (RowRd.nil w 0 none 0) ha hb
  have e : twoR 0 k (vnum a) (vnum b) = (vz, c) := by
    unfold twoR
    rw [if_neg (by omega), if_neg (by omega), if_neg (by omega), if_pos hk, if_pos ⟨rfl, rfl⟩]
    show numR (reckonR k a b) = _
    rw [h]; unfold numR; rw [if_neg hc]
  rw [e] at h1
  exact h1
end
end Go.Proofs.YtndeihmclecmcaaGreatDoor
