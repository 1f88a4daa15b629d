/- Package eval: what answer goes on with. -/
import Derived.Test.YtnnlblcaidffcaaGreatDoorEvF
import Derived.Deep.AppendLies
namespace Go.Proofs.YtnnlblcaidffcaaGreatDoor
open Go.RowKit
set_option linter.unusedVariables false
set_option linter.unusedSimpArgs false
theorem info_valE : (Tryz.prog.info? 48).map (fun i => (i.zero, i.size, i.bytes)) = some (some (.agg #[.int .i64 0, .int .i64 0, .string ⟨#[]⟩, .slice none 0 0]), 4, 56) := by kernel_rfl
/-- The nodes asked one behind the other, with what was told of those ahead. -/
def evR (M : NodeL → List VL → Option (VL × Int)) : List NodeL → List VL → Option (VL × Int)
  | [], _ => none
  | n :: ns, st => if n.kids.length ≤ st.length then (M n (st.drop (st.length - n.kids.length))).bind fun r => if r.2 ≠ 0 ∨ ns = [] then some r else evR M ns (st.take (st.length - n.kids.length) ++ [r.1]) else none
theorem grown_below {w V V' : World} {b : Nat} (h : w.grownBy V (some b)) (k : Below V.heap.size V V') : w.grownBy V' (some b) :=
  ⟨k.os.trans h.os, k.tape.trans h.tape, k.output.trans h.output, Nat.le_trans h.size k.size, fun i hi hne => (k.block i (Nat.lt_of_lt_of_le hi h.size)).trans (h.block i hi hne)⟩
theorem grown_set {w V : World} {b : Nat} (h : w.grownBy V (some b)) {g : Nat} (hg : g = b ∨ w.heap.size ≤ g) (o : Nat) (u : Value) : w.grownBy (V.setCell ⟨g, o, none⟩ u) (some b) :=
  ⟨h.os, h.tape, h.output, by simpa [World.setCell] using h.size, fun i hi hne => (heap_setCell_other V ⟨g, o, none⟩ i u (by
    rcases hg with rfl | hg
    · intro e; exact hne (by simp at e; rw [e])
    · simp; omega)).trans (h.block i hi hne)⟩
theorem cell_set_other {V : World} {g o g' : Nat} {u : Value} (h : g' ≠ g) (i : Nat) : (V.setCell ⟨g, o, none⟩ u).cell? ⟨g', i, none⟩ = V.cell? ⟨g', i, none⟩ :=
  World.cell?_of_block (a := ⟨g', i, none⟩) (heap_setCell_other V ⟨g, o, none⟩ g' u (by simpa using h))
structure Mid (w0 w : World) (b g ga R : Nat) (nv : Value) (ns : List NodeL) (ab : List Int) (vv : Value) (ps : List (VL × Value)) (V : World) : Prop where
  old : Below w0.heap.size w0 V
  blk : AskB V b g nv (.slice (some ⟨ga, 0, none⟩) ns.length ns.length) vv
  above : ∀ (i : Nat) (x : Int), ab[i]? = some x → V.cell? ⟨ga, i, none⟩ = some (.int .i64 x)
  res : NBlk V R 0 0 ⟨#[]⟩
  own : V.ownsRow (R + 1) 48 4 vv ps.length (rowCells ps)
  kids : KidsRd V 0 ps
  grow : w.grownBy V (some b)
variable {w0 w V V' : World} {b g ga R : Nat} {nv vv : Value} {ns : List NodeL} {ab : List Int} {ps : List (VL × Value)}
theorem Mid.below (h : Mid w0 w b g ga R nv ns ab vv ps V) (k : Below V.heap.size V V') : Mid w0 w b g ga R nv ns ab vv ps V' :=
  ⟨h.old.trans (k.mono h.old.size), h.blk.below k, fun i x hx => hold k (h.above i x hx), h.res.below k, own_below h.own k, fun p hp => h.kids p hp, grown_below h.grow k⟩
/-- Another row is put into the block of what asks. -/
theorem Mid.put (h : Mid w0 w b g ga R nv ns ab vv ps V) (hb : w0.heap.size ≤ b) (hbR : b < R) (hab : ga ≠ b) (vv' : Value) (ps' : List (VL × Value)) (ho : V.ownsRow (R + 1) 48 4 vv' ps'.length (rowCells ps')) (hk : KidsRd V 0 ps') :
    Mid w0 w b g ga R nv ns ab vv' ps' (V.setCell ⟨b, 3, none⟩ vv') :=
  ⟨h.old.setCell hb _, h.blk.set vv', fun i x hx => (cell_set_other hab i).trans (h.above i x hx), (heap_setCell_other V ⟨b, 3, none⟩ R vv' (by simp; omega)).trans h.res,
    own_blocksE ho (fun k hk => heap_setCell_other V ⟨b, 3, none⟩ k vv' (by have := (World.ownsRow.lt ho k hk).1; simp; omega)), fun p hp => hk p hp, grown_set h.grow (.inl rfl) _ _⟩
end Go.Proofs.YtnnlblcaidffcaaGreatDoor
