/- The law of lists of values: one region, in whatever order. -/
import Derived.Test.YtihlbnflgjidaaaValLa
namespace Go.Proofs.Ytihlbnflgjidaaa
open Go.RowKit
set_option linter.unusedVariables false
set_option linter.unusedSimpArgs false

def findReg (n : Nat) : Code → Option Code
  | .region k ops d => if k = n then some (.region k ops d) else none
  | .seq a b => match findReg n a with
    | some c => some c
    | none => findReg n b
  | .block _ c => findReg n c
  | .scope c => findReg n c
  | .loop c => findReg n c
  | .cond _ a b => match findReg n a with
    | some c => some c
    | none => findReg n b
  | _ => none
noncomputable def reg11C : Code := ((Try.f4.body.bind (findReg 11)).getD .skip)
/-- One value's cells, whatever its block is else. -/
def AtBlk (w : World) (g : Nat) (n : Int) : Prop := w.cell? ⟨g, 1, none⟩ = some (.int .i64 n) ∧ g < w.heap.size
theorem at_new (w : World) (a c d : Value) (m : Int) : AtBlk (w.alloc (.cells #[a, .int .i64 m, c, d] 26)) w.heap.size m :=
  ⟨(cell_of_row _ _ 1 _ _ _ (heap_alloc_new w _)).trans rfl, by simp⟩
theorem at_set4 {w : World} {g : Nat} {u0 : Value} (h : w.cell? ⟨g, 1, none⟩ = some u0) (hl : g < w.heap.size) (a : Value) {m : Int} (c d : Value) :
    AtBlk ((((w.setCell ⟨g, 0, none⟩ a).setCell ⟨g, 1, none⟩ (.int .i64 m)).setCell ⟨g, 2, none⟩ c).setCell ⟨g, 3, none⟩ d) g m := by
  refine ⟨?_, by simpa [World.setCell] using hl⟩
  rw [set_cell_ne _ _ _ _ _ (by omega), set_cell_ne _ _ _ _ _ (by omega)]
  exact set_cell_eq _ ((set_cell_ne _ _ _ _ _ (by omega)).trans h)
set_option maxHeartbeats 16000000 in
set_option maxRecDepth 1000000 in
theorem reg11 {x0 x2 x3 x4 x5 x6 x7 x8 x10 x11 x12 x13 x14 x15 x16 x17 x18 x19 x20 x21 x22 x23 x24 x25 x26 x27 x28 x29 x30 x31 x32 x33 x34 x35 x36 x37 x38 x39 x40 x41 x42 x43 x44 x45 x46 x47 x48 x49 x50 x51 x52 x53 x54 x55 x56 x57 x58 x59 x60 x61 x62 x63 x64 x65 x66 x67 x68 x69 x70 x71 x72 x73 x74 x75 x76 x77 x78 x79 x80 x81 x82 x83 x84 x85 x86 x87 x88 x89 x90 x91 x92 x93 x94 x95 x96 x97 x98 x99 x100 x101 x102 x103 x104 x105 x106 x107 x108 x109 x110 x111 x112 x113 x114 x115 x116 x117 x118 x119 x120 x121 x122 x123 x124 x125 x126 x127 x128 x129 x130 x131 x132 x133 x134 : Value} {at_ : Int} {g : Nat} {W : World} {Q : Exit → Act → World → Prop} {k m c : Int} {l : List VL} {lo : Option Addr} {lc : Nat} (C : Hid (VBlk W g (VL.mk 4 0 ⟨#[]⟩ l) (.slice lo l.length lc)))
    (T : Hid (∀ V, Below W.heap.size W V → Calls Try.prog 9 #[.agg #[.int .i64 4, .int .i64 0, .string ⟨#[]⟩, .slice lo l.length lc], .agg #[.int .i64 1, .int .i64 at_, .string ⟨#[]⟩, .slice none 0 0]] V (Leaf k m c V)))
    (hQ : ∀ (y50 y51 y52 y53 y54 y55 y56 : Value) (gx : Nat) (wx : World), Below W.heap.size W wx → AtBlk wx gx m → Q .normal ⟨#[x0, .int .i64 at_, x2, x3, x4, x5, x6, x7, x8, .pointer (some ⟨g, 0, none⟩), x10, .pointer (some ⟨gx, 0, none⟩), .int .i64 c, x13, x14, x15, x16, x17, x18, x19, x20, x21, x22, x23, x24, x25, x26, x27, x28, x29, x30, x31, x32, x33, x34, x35, x36, x37, x38, x39, x40, x41, x42, x43, x44, x45, x46, x47, x48, x49, y50, y51, y52, y53, y54, y55, y56, x57, x58, x59, x60, x61, x62, x63, x64, x65, x66, x67, x68, x69, x70, x71, x72, x73, x74, x75, x76, x77, x78, x79, x80, x81, x82, x83, x84, x85, x86, x87, x88, x89, x90, x91, x92, x93, x94, x95, x96, x97, x98, x99, x100, x101, x102, x103, x104, x105, x106, x107, x108, x109, x110, x111, x112, x113, x114, x115, x116, x117, x118, x119, x120, x121, x122, x123, x124, x125, x126, x127, x128, x129, x130, x131, x132, x133, x134], []⟩ wx) :
    Code.wp Try.prog reg11C Q ⟨#[x0, .int .i64 at_, x2, x3, x4, x5, x6, x7, x8, .pointer (some ⟨g, 0, none⟩), x10, x11, x12, x13, x14, x15, x16, x17, x18, x19, x20, x21, x22, x23, x24, x25, x26, x27, x28, x29, x30, x31, x32, x33, x34, x35, x36, x37, x38, x39, x40, x41, x42, x43, x44, x45, x46, x47, x48, x49, x50, x51, x52, x53, x54, x55, x56, x57, x58, x59, x60, x61, x62, x63, x64, x65, x66, x67, x68, x69, x70, x71, x72, x73, x74, x75, x76, x77, x78, x79, x80, x81, x82, x83, x84, x85, x86, x87, x88, x89, x90, x91, x92, x93, x94, x95, x96, x97, x98, x99, x100, x101, x102, x103, x104, x105, x106, x107, x108, x109, x110, x111, x112, x113, x114, x115, x116, x117, x118, x119, x120, x121, x122, x123, x124, x125, x126, x127, x128, x129, x130, x131, x132, x133, x134], []⟩ W := by
  obtain ⟨c0, c1, c2, c3⟩ := C.out.cells
  have cl := C.out.lt
  replace c0 : W.cell? ⟨g, 0, none⟩ = some (.int .i64 4) := c0
  replace c1 : W.cell? ⟨g, 1, none⟩ = some (.int .i64 0) := c1
  replace c2 : W.cell? ⟨g, 2, none⟩ = some (.string ⟨#[]⟩) := c2
  have HQ := Lib.hid hQ
  clear hQ
  conv => arg 2; whnf
  go_region_held3 (fun w' => w'.cell? ⟨g, 0, none⟩ = some (.int .i64 4) ∧ w'.cell? ⟨g, 1, none⟩ = some (.int .i64 0) ∧ w'.cell? ⟨g, 2, none⟩ = some (.string ⟨#[]⟩) ∧ w'.cell? ⟨g, 3, none⟩ = some (.slice lo l.length lc)) (first | ((with_reducible refine ⟨hold ?_ c0, hold ?_ c1, hold ?_ c2, hold ?_ c3⟩) <;> (repeat (first | with_reducible exact HBy.out | with_reducible exact HBx.out | with_reducible exact Below.refl _ _ | with_reducible refine below_drew ?_ | with_reducible refine below_drewN ?_ _ | with_reducible refine below_al ?_ _ | with_reducible refine below_set1 ?_ (Nat.le_refl _) _ | with_reducible refine below_set1 ?_ HBy.out.size _ | with_reducible refine below_set1 ?_ HBx.out.size _)) <;> done) | ((with_reducible refine ⟨hold ?_ c0, hold ?_ c1, hold ?_ c2, hold ?_ c3⟩) <;> (repeat (first | with_reducible exact HBx.out | with_reducible exact Below.refl _ _ | with_reducible refine below_drew ?_ | with_reducible refine below_drewN ?_ _ | with_reducible refine below_al ?_ _ | with_reducible refine below_set1 ?_ (Nat.le_refl _) _ | with_reducible refine below_set1 ?_ HBx.out.size _)) <;> done) | go_keep) (first
    | (go_at_call 18; (with_reducible refine (lval _ _).mono ?_); rintro e w' ⟨rfl, hbx⟩; (have HBx : Below W.heap.size W w' := by ((refine below_tr ?_ hbx); (repeat (first | with_reducible exact Below.refl _ _ | with_reducible refine below_drew ?_ | with_reducible refine below_drewN ?_ _ | with_reducible refine below_al ?_ _ | with_reducible refine below_set1 ?_ (Nat.le_refl _) _)))); (replace HBx := Lib.hid HBx); (first | (have N1 : NBlk w' W.heap.size 0 0 ⟨#[]⟩ := by ((refine NBlk.below ?_ hbx); (repeat (first | with_reducible exact NBlk.new _ _ _ _ | with_reducible refine nblk_drew ?_ | with_reducible refine nblk_drewN ?_ _ | with_reducible refine NBlk.al ?_ _)))); (replace N1 := Lib.hid N1) | skip))
    | (go_at_call 9; (with_reducible refine (T.out _ ?_).mono ?_); (· (repeat (first | with_reducible exact HBx.out | with_reducible exact Below.refl _ _ | with_reducible refine below_drew ?_ | with_reducible refine below_drewN ?_ _ | with_reducible refine below_al ?_ _ | with_reducible refine below_set1 ?_ (Nat.le_refl _) _ | with_reducible refine below_set1 ?_ HBx.out.size _))); rintro e w'' ⟨ao, cap, rfl, hby⟩; (have HBy : Below W.heap.size W w'' := by ((refine below_tr ?_ hby); (repeat (first | with_reducible exact HBx.out | with_reducible exact Below.refl _ _ | with_reducible refine below_drew ?_ | with_reducible refine below_drewN ?_ _ | with_reducible refine below_al ?_ _ | with_reducible refine below_set1 ?_ (Nat.le_refl _) _ | with_reducible refine below_set1 ?_ HBx.out.size _)))); (replace HBy := Lib.hid HBy); (first | (have NN : NBlk w'' w'.heap.size 0 0 ⟨#[]⟩ := by ((refine NBlk.below ?_ hby); (repeat (first | with_reducible exact NBlk.new _ _ _ _ | with_reducible refine nblk_drew ?_ | with_reducible refine nblk_drewN ?_ _ | with_reducible refine NBlk.al ?_ _)))) | (have NN : NBlk w'' W.heap.size 0 0 ⟨#[]⟩ := by ((refine NBlk.below ?_ hby); (repeat (first | with_reducible exact NBlk.new _ _ _ _ | with_reducible exact N1.out | with_reducible refine nblk_drew ?_ | with_reducible refine nblk_drewN ?_ _ | with_reducible refine NBlk.al ?_ _)))) | have NN := True.intro); (try (replace NN := NN.full; obtain ⟨⟨q0, q1, q2, q3, ql⟩, q4, q5, q6, q7⟩ := NN))))
  all_goals ((refine HQ.out _ _ _ _ _ _ _ _ _ ?_ ?_); (· (repeat (first | with_reducible exact HBy.out | with_reducible exact HBx.out | with_reducible exact Below.refl _ _ | with_reducible refine below_drew ?_ | with_reducible refine below_drewN ?_ _ | with_reducible refine below_al ?_ _ | with_reducible refine below_set1 ?_ (Nat.le_refl _) _ | with_reducible refine below_set1 ?_ HBy.out.size _ | with_reducible refine below_set1 ?_ HBx.out.size _))); (· first | with_reducible exact at_new _ _ _ _ _ | with_reducible exact at_set4 q1 ql _ _ _))
end Go.Proofs.Ytihlbnflgjidaaa
