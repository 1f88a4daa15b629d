/- Package eval: what answer goes on with, behind an append. -/
import Derived.Test.YtndeihmclecmcaaGreatDoorEvF
import Derived.Deep.AppendLies
namespace Go.Proofs.YtndeihmclecmcaaGreatDoor
open Go.RowKit
set_option linter.unusedVariables false
set_option linter.unusedSimpArgs false
theorem info_valE : (Tryz.prog.info? 39).map (fun i => (i.zero, i.size, i.bytes)) = some (some (.agg #[.int .i64 0, .int .i64 0, .string ⟨#[]⟩, .slice none 0 0]), 4, 56) := by kernel_rfl
/-- The nodes asked one behind the other, with what was told of those ahead. -/
def evR (M : NodeL → List VL → Option (VL × Int)) : List NodeL → List VL → Option (VL × Int)
  | [], _ => none
  | n :: ns, st => if n.kids.length ≤ st.length then (M n (st.drop (st.length - n.kids.length))).bind fun r => if r.2 ≠ 0 ∨ ns = [] then some r else evR M ns (st.take (st.length - n.kids.length) ++ [r.1]) else none
theorem grown_below {w V V' : World} {b : Nat} (h : w.grownBy V (some b)) (k : Below V.heap.size V V') : w.grownBy V' (some b) :=
  ⟨k.os.trans h.os, k.tape.trans h.tape, k.output.trans h.output, Nat.le_trans h.size k.size, fun i hi hne => (k.block i (Nat.lt_of_lt_of_le hi h.size)).trans (h.block i hi hne)⟩
theorem grown_set {w V : World} {b : Nat} (h : w.grownBy V (some b)) {g : Nat} (hg : g = b ∨ w.heap.size ≤ g) (o : Nat) (u : Value) : w.grownBy (V.setCell ⟨g, o, none⟩ u) (some b) :=
  ⟨h.os, h.tape, h.output, by simpa [World.setCell] using h.size, fun i hi hne => (heap_setCell_other V ⟨g, o, none⟩ i u (by
    rcases hg with rfl | hg
    · intro e; exact hne (by simp at e; rw [e])
    · simp; omega)).trans (h.block i hi hne)⟩
theorem cell_set_other {V : World} {g o g' : Nat} {u : Value} (h : g' ≠ g) (i : Nat) : (V.setCell ⟨g, o, none⟩ u).cell? ⟨g', i, none⟩ = V.cell? ⟨g', i, none⟩ :=
  World.cell?_of_block (a := ⟨g', i, none⟩) (heap_setCell_other V ⟨g, o, none⟩ g' u (by simpa using h))
structure Mid (w0 w : World) (b g ga R : Nat) (nv : Value) (ns : List NodeL) (ab : List Int) (vv : Value) (ps : List (VL × Value)) (V : World) : Prop where
  old : Below w0.heap.size w0 V
  blk : AskB V b g nv (.slice (some ⟨ga, 0, none⟩) ns.length ns.length) vv
  above : ∀ (i : Nat) (x : Int), ab[i]? = some x → V.cell? ⟨ga, i, none⟩ = some (.int .i64 x)
  res : NBlk V R 0 0 ⟨#[]⟩
  own : V.ownsRow (R + 1) 39 4 vv ps.length (rowCells ps)
  kids : KidsRd V 0 ps
  grow : w.grownBy V (some b)
variable {w0 w V V' : World} {b g ga R : Nat} {nv vv : Value} {ns : List NodeL} {ab : List Int} {ps : List (VL × Value)}
theorem Mid.below (h : Mid w0 w b g ga R nv ns ab vv ps V) (k : Below V.heap.size V V') : Mid w0 w b g ga R nv ns ab vv ps V' :=
  ⟨h.old.trans (k.mono h.old.size), h.blk.below k, fun i x hx => hold k (h.above i x hx), h.res.below k, own_below h.own k, fun p hp => h.kids p hp, grown_below h.grow k⟩
/-- Another row is put into the block of what asks. -/
theorem Mid.put (h : Mid w0 w b g ga R nv ns ab vv ps V) (hb : w0.heap.size ≤ b) (hbR : b < R) (hab : ga ≠ b) (vv' : Value) (ps' : List (VL × Value)) (ho : V.ownsRow (R + 1) 39 4 vv' ps'.length (rowCells ps')) (hk : KidsRd V 0 ps') :
    Mid w0 w b g ga R nv ns ab vv' ps' (V.setCell ⟨b, 3, none⟩ vv') :=
  ⟨h.old.setCell hb _, h.blk.set vv', fun i x hx => (cell_set_other hab i).trans (h.above i x hx), (heap_setCell_other V ⟨b, 3, none⟩ R vv' (by simp; omega)).trans h.res,
    own_blocksE ho (fun k hk => heap_setCell_other V ⟨b, 3, none⟩ k vv' (by have := (World.ownsRow.lt ho k hk).1; simp; omega)), fun p hp => hk p hp, grown_set h.grow (.inl rfl) _ _⟩
end Go.Proofs.YtndeihmclecmcaaGreatDoor
namespace Go.Proofs.YtndeihmclecmcaaGreatDoor
open Go.RowKit
set_option linter.unusedVariables false
set_option linter.unusedSimpArgs false
variable {w0 w V V' : World} {b g ga R : Nat} {nv vv : Value} {ns : List NodeL} {ab : List Int} {ps : List (VL × Value)}
/-- All of Mid but the row. -/
structure MidX (w0 w : World) (b g ga R : Nat) (nv : Value) (ns : List NodeL) (ab : List Int) (vv : Value) (V : World) : Prop where
  old : Below w0.heap.size w0 V
  blk : AskB V b g nv (.slice (some ⟨ga, 0, none⟩) ns.length ns.length) vv
  above : ∀ (i : Nat) (x : Int), ab[i]? = some x → V.cell? ⟨ga, i, none⟩ = some (.int .i64 x)
  res : NBlk V R 0 0 ⟨#[]⟩
  grow : w.grownBy V (some b)
theorem Mid.x (h : Mid w0 w b g ga R nv ns ab vv ps V) : MidX w0 w b g ga R nv ns ab vv V := ⟨h.old, h.blk, h.above, h.res, h.grow⟩
theorem MidX.mid (h : MidX w0 w b g ga R nv ns ab vv V) (ho : V.ownsRow (R + 1) 39 4 vv ps.length (rowCells ps)) (hk : KidsRd V 0 ps) : Mid w0 w b g ga R nv ns ab vv ps V := ⟨h.old, h.blk, h.above, h.res, ho, hk, h.grow⟩
theorem MidX.grown (h : MidX w0 w b g ga R nv ns ab vv V) (hwR : w.heap.size ≤ R) (hw0 : w0.heap.size ≤ R) (hbR : b < R) (haR : ga < R) {row : Option Nat} (hg : V.grownBy V' row) (hr : ∀ k, row = some k → R + 1 ≤ k) : MidX w0 w b g ga R nv ns ab vv V' := by
  have hk : ∀ k, k < V.heap.size → k ≤ R → V'.heap[k]? = V.heap[k]? := fun k hk hkR => hg.block k hk (fun e => by have := hr k e.symm; omega)
  refine ⟨Below.grown h.old hg h.old.size (fun k hk => by have := hr k hk; omega), (hk b (Array.getElem?_eq_some_iff.1 h.blk).1 (by omega)).trans h.blk, fun i x hx => ?_, (hk R h.res.lt (Nat.le_refl _)).trans h.res, ?_⟩
  · have hc := h.above i x hx
    exact (World.cell?_of_block (a := ⟨ga, i, none⟩) (hk ga (World.block_lt_of_cell? V _ hc) (by omega))).trans hc
  · exact ⟨hg.os.trans h.grow.os, hg.tape.trans h.grow.tape, hg.output.trans h.grow.output, Nat.le_trans h.grow.size hg.size, fun i hi hne => (hk i (Nat.lt_of_lt_of_le hi h.grow.size) (by omega)).trans (h.grow.block i hi hne)⟩
/-- A cell of another block is set. -/
theorem Mid.set1 (h : Mid w0 w b g ga R nv ns ab vv ps V) (hwR : w.heap.size ≤ R) (hw0 : w0.heap.size ≤ R) (hbR : b < R) (haR : ga < R) {H : Nat} (hH : R + 1 ≤ H) (hne : ∀ k, vv.ownBlock = some k → k < H) (o : Nat) (u : Value) : Mid w0 w b g ga R nv ns ab vv ps (V.setCell ⟨H, o, none⟩ u) :=
  (h.x.grown hwR hw0 hbR haR (V' := V.setCell ⟨H, o, none⟩ u) (row := some H) ⟨rfl, rfl, rfl, by simp [World.setCell], fun k _ hk => heap_setCell_other V ⟨H, o, none⟩ k u (fun e => hk (by simp [e]))⟩ (fun k hk => by simp at hk; omega)).mid
    (own_blocksE h.own (fun k hk => heap_setCell_other V ⟨H, o, none⟩ k u (by have := hne k hk; simp; omega))) (fun p hp => h.kids p hp)
theorem set4_row (xs : List Value) (m : Nat) (hx : xs.length = m) (z0 z1 z2 z3 a b c d : Value) :
    ((((xs ++ [z0, z1, z2, z3]).set m a).set (m + 1) b).set (m + 2) c).set (m + 3) d = xs ++ [a, b, c, d] := by
  subst hx
  apply List.ext_getElem?
  intro i
  simp only [List.getElem?_set, List.getElem?_append, List.length_set, List.length_append, List.length_cons, List.length_nil]
  by_cases h : i < xs.length
  · simp only [if_pos h]
    rw [if_neg (by omega), if_neg (by omega), if_neg (by omega), if_neg (by omega)]
  · simp only [if_neg h]
    obtain ⟨k, rfl⟩ : ∃ k, i = xs.length + k := ⟨i - xs.length, by omega⟩
    match k with
    | 0 => simp
    | 1 => simp
    | 2 => simp
    | 3 => simp
    | k + 4 => simp
/-- The value is laid into the row's new element, the row into what asks. -/
def laid5 (W : World) (gg n b : Nat) (v : VL) (lo : Option Addr) (lc cc : Nat) : World :=
  ((((W.setCell ⟨gg, n * 4, none⟩ (.int .i64 v.kind)).setCell ⟨gg, n * 4 + 1, none⟩ (.int .i64 v.num)).setCell ⟨gg, n * 4 + 2, none⟩ (.string v.text)).setCell ⟨gg, n * 4 + 3, none⟩ (.slice lo 0 lc)).setCell ⟨b, 3, none⟩ (.slice (some ⟨gg, 0, none⟩) (n + 1) cc)
theorem Mid.app (h : Mid w0 w b g ga R nv ns ab vv ps V) (hwR : w.heap.size ≤ R) (hw0 : w0.heap.size ≤ b) (hbR : b < R) (haR : ga < R) (hab : ga ≠ b) {W : World} {gg cc : Nat} {z0 z1 z2 z3 : Value} (n : Nat) (hn : ps.length = n)
    (ho : W.ownsRow (R + 1) 39 4 (.slice (some ⟨gg, 0, none⟩) (n + 1) cc) (n + 1) (rowCells ps ++ [z0, z1, z2, z3])) (hg : V.grownBy W vv.ownBlock) (v : VL) (lo : Option Addr) (lc : Nat) (hv : v.kids = []) :
    Mid w0 w b g ga R nv ns ab (.slice (some ⟨gg, 0, none⟩) (n + 1) cc) (ps ++ [(v, .slice lo 0 lc)]) (laid5 W gg n b v lo lc cc) := by
  have hgg := (World.ownsRow.lt ho gg rfl).1
  have x0 := h.x.grown hwR (by omega) hbR haR hg (fun k hk => (World.ownsRow.lt h.own k hk).1)
  have hr : ∀ k, some gg = some k → R + 1 ≤ k := fun k hk => by simp at hk; omega
  obtain ⟨o1, k1⟩ := World.ownsRow.stored ho (n * 4) (.int .i64 v.kind)
  obtain ⟨o2, k2⟩ := World.ownsRow.stored o1 (n * 4 + 1) (.int .i64 v.num)
  obtain ⟨o3, k3⟩ := World.ownsRow.stored o2 (n * 4 + 2) (.string v.text)
  obtain ⟨o4, k4⟩ := World.ownsRow.stored o3 (n * 4 + 3) (.slice lo 0 lc)
  have x4 := (((x0.grown hwR (by omega) hbR haR k1 hr).grown hwR (by omega) hbR haR k2 hr).grown hwR (by omega) hbR haR k3 hr).grown hwR (by omega) hbR haR k4 hr
  rw [set4_row _ _ (by rw [rowCells_len, hn])] at o4
  have e : rowCells ps ++ [.int .i64 v.kind, .int .i64 v.num, .string v.text, .slice lo 0 lc] = rowCells (ps ++ [(v, .slice lo 0 lc)]) := by rw [rowCells_snoc]; rfl
  rw [e] at o4
  unfold laid5
  generalize (((W.setCell ⟨gg, n * 4, none⟩ (.int .i64 v.kind)).setCell ⟨gg, n * 4 + 1, none⟩ (.int .i64 v.num)).setCell ⟨gg, n * 4 + 2, none⟩ (.string v.text)).setCell ⟨gg, n * 4 + 3, none⟩ (.slice lo 0 lc) = X at *
  have e2 : (ps ++ [(v, Value.slice lo 0 lc)]).length = n + 1 := by simp [hn]
  have o5 : X.ownsRow (R + 1) 39 4 (.slice (some ⟨gg, 0, none⟩) (n + 1) cc) (ps ++ [(v, Value.slice lo 0 lc)]).length (rowCells (ps ++ [(v, .slice lo 0 lc)])) := by rw [e2]; exact o4
  have hk : ∀ (U : World), KidsRd U 0 (ps ++ [(v, .slice lo 0 lc)]) := fun U p hp => by
    rcases List.mem_append.1 hp with hp | hp
    · exact h.kids p hp
    · simp at hp; subst hp; exact ⟨hv, lo, lc, rfl⟩
  exact ⟨x4.old.setCell hw0 _, x4.blk.set _, fun i x hx => (cell_set_other hab i).trans (x4.above i x hx), (heap_setCell_other X ⟨b, 3, none⟩ R _ (by simp; omega)).trans x4.res,
    own_blocksE o5 (fun k hk => heap_setCell_other X ⟨b, 3, none⟩ k _ (by have := (World.ownsRow.lt o5 k hk).1; simp; omega)), hk _, grown_set x4.grow (.inl rfl) _ _⟩
theorem set_comm (w : World) (a c : Addr) (u v : Value) (h : a.block ≠ c.block) : (w.setCell a u).setCell c v = (w.setCell c v).setCell a u := by
  unfold World.setCell
  simp only
  congr 1
  apply Array.ext_getElem?
  intro i
  simp only [Array.getElem?_modify]
  by_cases h1 : a.block = i
  · have h2 : ¬ c.block = i := fun e => h (h1.trans e.symm)
    simp [h1, h2]
  · by_cases h2 : c.block = i
    · simp [h1, h2]
    · simp [h1, h2]
theorem laid5_other (W : World) (gg n b : Nat) (v : VL) (lo : Option Addr) (lc cc : Nat) (h : ¬ b = gg) :
    ((((W.setCell ⟨b, 3, none⟩ (.slice (some ⟨gg, 0, none⟩) (n + 1) cc)).setCell ⟨gg, n * 4, none⟩ (.int .i64 v.kind)).setCell ⟨gg, n * 4 + 1, none⟩ (.int .i64 v.num)).setCell ⟨gg, n * 4 + 2, none⟩ (.string v.text)).setCell ⟨gg, n * 4 + 3, none⟩ (.slice lo 0 lc) = laid5 W gg n b v lo lc cc := by
  unfold laid5
  rw [set_comm W _ ⟨gg, n * 4, none⟩ _ _ h, set_comm _ ⟨b, 3, none⟩ ⟨gg, n * 4 + 1, none⟩ _ _ h, set_comm _ ⟨b, 3, none⟩ ⟨gg, n * 4 + 2, none⟩ _ _ h, set_comm _ ⟨b, 3, none⟩ ⟨gg, n * 4 + 3, none⟩ _ _ h]
end Go.Proofs.YtndeihmclecmcaaGreatDoor
