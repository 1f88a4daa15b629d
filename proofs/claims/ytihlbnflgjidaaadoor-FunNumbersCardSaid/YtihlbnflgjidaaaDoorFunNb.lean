/- The law of numbers: one region, in whatever order. -/
import Derived.Test.YtihlbnflgjidaaaDoorFunNa
namespace Go.Proofs.YtihlbnflgjidaaaDoor
open Go.RowKit
set_option linter.unusedVariables false
set_option linter.unusedSimpArgs false

def findReg (n : Nat) : Code → Option Code
  | .region k ops d => if k = n then some (.region k ops d) else none
  | .seq a b => match findReg n a with
    | some c => some c
    | none => findReg n b
  | .block _ c => findReg n c
  | .scope c => findReg n c
  | .loop c => findReg n c
  | .cond _ a b => match findReg n a with
    | some c => some c
    | none => findReg n b
  | _ => none
noncomputable def reg20C : Code := ((Tryd.f6.body.bind (findReg 20)).getD .skip)
/-- The kind and the number of a value in a block. -/
def AtKN (w : World) (g : Nat) (k n : Int) : Prop := w.cell? ⟨g, 0, none⟩ = some (.int .i64 k) ∧ w.cell? ⟨g, 1, none⟩ = some (.int .i64 n) ∧ g < w.heap.size
theorem at_new (w : World) (c d : Value) (k m : Int) : AtKN (w.alloc (.cells #[.int .i64 k, .int .i64 m, c, d] 24)) w.heap.size k m :=
  ⟨(cell_of_row _ _ 0 _ _ _ (heap_alloc_new w _)).trans rfl, (cell_of_row _ _ 1 _ _ _ (heap_alloc_new w _)).trans rfl, by simp⟩
theorem at_set4 {w : World} {g : Nat} {u0 u1 : Value} (h0 : w.cell? ⟨g, 0, none⟩ = some u0) (h : w.cell? ⟨g, 1, none⟩ = some u1) (hl : g < w.heap.size) {k m : Int} (c d : Value) :
    AtKN ((((w.setCell ⟨g, 0, none⟩ (.int .i64 k)).setCell ⟨g, 1, none⟩ (.int .i64 m)).setCell ⟨g, 2, none⟩ c).setCell ⟨g, 3, none⟩ d) g k m := by
  refine ⟨?_, ?_, by simpa [World.setCell] using hl⟩
  · rw [set_cell_ne _ _ _ _ _ (by omega), set_cell_ne _ _ _ _ _ (by omega), set_cell_ne _ _ _ _ _ (by omega)]
    exact set_cell_eq _ h0
  · rw [set_cell_ne _ _ _ _ _ (by omega), set_cell_ne _ _ _ _ _ (by omega)]
    exact set_cell_eq _ ((set_cell_ne _ _ _ _ _ (by omega)).trans h)
theorem nblk_second (w : World) (O : Obj) : NBlk ((w.alloc O).alloc (.cells #[.int .i64 0, .int .i64 0, .string ⟨#[]⟩, .slice none 0 0] 24)) (w.heap.size + 1) 0 0 ⟨#[]⟩ := heap_at (by simp)
theorem blk_over (w : World) (O P : Obj) : ((w.alloc O).alloc P).heap[w.heap.size + 1]? = some P := heap_at (by simp)
theorem blk_under (w : World) (O P : Obj) : ((w.alloc O).alloc P).heap[w.heap.size]? = some O := (Below.block (below_al (Below.refl _ _) P) w.heap.size (by simp)).trans (heap_alloc_new w O)
set_option maxHeartbeats 16000000 in
set_option maxRecDepth 1000000 in
theorem reg20 {x0 x2 x3 x4 x5 x6 x7 x8 x9 x10 x11 x12 x13 x14 x16 x17 x18 x19 x20 x21 x22 x23 x24 x25 x26 x27 x28 x29 x30 x31 x32 x33 x34 x35 x36 x37 x38 x39 x40 x41 x42 x43 x44 x45 x46 x47 x48 x49 x50 x51 x52 x53 x54 x55 x56 x57 x58 x59 x60 x61 x62 x63 x64 x65 x66 x67 x68 x69 x70 x71 x72 x73 x74 x75 x76 x77 x78 x79 x80 x81 x82 x83 x84 x85 x86 x87 x88 x89 x90 x91 x92 x93 x94 x95 x96 x97 x98 x99 x100 x101 x102 x103 x104 x105 x106 x107 x108 x109 x110 x111 x112 x113 x114 x115 x116 x117 x118 x119 x120 x121 x122 x123 x124 x125 x126 x127 x128 x129 x130 x131 x132 x133 x134 x135 x136 x137 x138 x139 x140 x141 x142 x143 x144 x145 x146 x147 x148 x149 x150 x151 x152 x153 x154 x155 x156 x157 x158 x159 x160 x161 : Value} {o : Int} {g : Nat} {W : World} {Q : Exit → Act → World → Prop} {m : Int} {l : List VL} {lo : Option Addr} {lc : Nat} (ho : -2147483648 ≤ o ∧ o ≤ 2147483647) (C : Hid (VBlk W g (VL.mk 4 0 ⟨#[]⟩ l) (.slice lo l.length lc)))
    (T : Hid (∀ V, Below W.heap.size W V → ∀ g', V.heap[g']? = some (.cells #[.int .i64 4, .int .i64 0, .string ⟨#[]⟩, .slice lo l.length lc, .int .i64 1, .int .i64 o, .string ⟨#[]⟩, .slice none 0 0] 24 (0, 0)) → Calls Tryd.prog 26 #[.string ⟨#[104, 97, 115]⟩, .slice (some ⟨g', 0, none⟩) 2 2] V (IsTold 3 m ⟨#[]⟩ 0 V)))
    (hQ : ∀ (y116 y117 y118 y119 y120 y121 y122 y123 y124 : Value) (gx : Nat) (wx : World), Below W.heap.size W wx → AtKN wx gx 3 m → Q .normal ⟨#[x0, .int .i32 o, x2, x3, x4, x5, x6, x7, x8, x9, x10, x11, x12, x13, x14, .pointer (some ⟨g, 0, none⟩), x16, x17, x18, x19, x20, x21, x22, x23, .pointer (some ⟨gx, 0, none⟩), .int .i64 0, x26, x27, x28, x29, x30, x31, x32, x33, x34, x35, x36, x37, x38, x39, x40, x41, x42, x43, x44, x45, x46, x47, x48, x49, x50, x51, x52, x53, x54, x55, x56, x57, x58, x59, x60, x61, x62, x63, x64, x65, x66, x67, x68, x69, x70, x71, x72, x73, x74, x75, x76, x77, x78, x79, x80, x81, x82, x83, x84, x85, x86, x87, x88, x89, x90, x91, x92, x93, x94, x95, x96, x97, x98, x99, x100, x101, x102, x103, x104, x105, x106, x107, x108, x109, x110, x111, x112, x113, x114, x115, y116, y117, y118, y119, y120, y121, y122, y123, y124, x125, x126, x127, x128, x129, x130, x131, x132, x133, x134, x135, x136, x137, x138, x139, x140, x141, x142, x143, x144, x145, x146, x147, x148, x149, x150, x151, x152, x153, x154, x155, x156, x157, x158, x159, x160, x161], []⟩ wx) :
    Code.wp Tryd.prog reg20C Q ⟨#[x0, .int .i32 o, x2, x3, x4, x5, x6, x7, x8, x9, x10, x11, x12, x13, x14, .pointer (some ⟨g, 0, none⟩), x16, x17, x18, x19, x20, x21, x22, x23, x24, x25, x26, x27, x28, x29, x30, x31, x32, x33, x34, x35, x36, x37, x38, x39, x40, x41, x42, x43, x44, x45, x46, x47, x48, x49, x50, x51, x52, x53, x54, x55, x56, x57, x58, x59, x60, x61, x62, x63, x64, x65, x66, x67, x68, x69, x70, x71, x72, x73, x74, x75, x76, x77, x78, x79, x80, x81, x82, x83, x84, x85, x86, x87, x88, x89, x90, x91, x92, x93, x94, x95, x96, x97, x98, x99, x100, x101, x102, x103, x104, x105, x106, x107, x108, x109, x110, x111, x112, x113, x114, x115, x116, x117, x118, x119, x120, x121, x122, x123, x124, x125, x126, x127, x128, x129, x130, x131, x132, x133, x134, x135, x136, x137, x138, x139, x140, x141, x142, x143, x144, x145, x146, x147, x148, x149, x150, x151, x152, x153, x154, x155, x156, x157, x158, x159, x160, x161], []⟩ W := by
  obtain ⟨c0, c1, c2, c3⟩ := C.out.cells
  have cl := C.out.lt
  replace c0 : W.cell? ⟨g, 0, none⟩ = some (.int .i64 4) := c0
  replace c1 : W.cell? ⟨g, 1, none⟩ = some (.int .i64 0) := c1
  replace c2 : W.cell? ⟨g, 2, none⟩ = some (.string ⟨#[]⟩) := c2
  have HQ := Lib.hid hQ
  clear hQ
  obtain ⟨ho1, ho2⟩ := ho
  have wo : IntKind.i64.wrap o = o := by rw [IntKind.wrap_i64]; omega
  conv => arg 2; whnf
  go_region_held3 (fun w' => w'.cell? ⟨g, 0, none⟩ = some (.int .i64 4) ∧ w'.cell? ⟨g, 1, none⟩ = some (.int .i64 0) ∧ w'.cell? ⟨g, 2, none⟩ = some (.string ⟨#[]⟩) ∧ w'.cell? ⟨g, 3, none⟩ = some (.slice lo l.length lc)) (first | ((with_reducible refine ⟨hold ?_ c0, hold ?_ c1, hold ?_ c2, hold ?_ c3⟩) <;> (repeat (first | with_reducible exact HBy.out | with_reducible exact HBx.out | with_reducible exact Below.refl _ _ | with_reducible refine below_drew ?_ | with_reducible refine below_drewN ?_ _ | with_reducible refine below_al ?_ _ | with_reducible refine below_set1 ?_ (Nat.le_refl _) _ | with_reducible refine below_set1 ?_ HBy.out.size _ | with_reducible refine below_set1 ?_ HBx.out.size _ | with_reducible refine below_set1 ?_ (Nat.le_trans HBx.out.size (Nat.le_succ _)) _)) <;> done) | ((with_reducible refine ⟨hold ?_ c0, hold ?_ c1, hold ?_ c2, hold ?_ c3⟩) <;> (repeat (first | with_reducible exact HBx.out | with_reducible exact Below.refl _ _ | with_reducible refine below_drew ?_ | with_reducible refine below_drewN ?_ _ | with_reducible refine below_al ?_ _ | with_reducible refine below_set1 ?_ (Nat.le_refl _) _ | with_reducible refine below_set1 ?_ HBx.out.size _ | with_reducible refine below_set1 ?_ (Nat.le_trans HBx.out.size (Nat.le_succ _)) _)) <;> done) | go_keep) (first
    | (go_at_call 30; (with_reducible refine (lval5 _ _).mono ?_); rintro e w' ⟨rfl, hbx⟩; (have HBx : Below W.heap.size W w' := by ((refine below_tr ?_ hbx); (repeat (first | with_reducible exact Below.refl _ _ | with_reducible refine below_drew ?_ | with_reducible refine below_drewN ?_ _ | with_reducible refine below_al ?_ _ | with_reducible refine below_set1 ?_ (Nat.le_refl _) _)))); (replace HBx := Lib.hid HBx); (first | (have N1 : NBlk w' W.heap.size 0 0 ⟨#[]⟩ := by ((refine NBlk.below ?_ hbx); (repeat (first | with_reducible exact NBlk.new _ _ _ _ | with_reducible refine nblk_drew ?_ | with_reducible refine nblk_drewN ?_ _ | with_reducible refine NBlk.al ?_ _)))); (replace N1 := Lib.hid N1) | skip))
    | (go_at_call 26; (with_reducible refine (T.out _ ?_ _ ?_).mono ?_); (· (repeat (first | with_reducible exact HBx.out | with_reducible exact Below.refl _ _ | with_reducible refine below_drew ?_ | with_reducible refine below_drewN ?_ _ | with_reducible refine below_al ?_ _ | with_reducible refine below_set1 ?_ (Nat.le_refl _) _ | with_reducible refine below_set1 ?_ HBx.out.size _ | with_reducible refine below_set1 ?_ (Nat.le_trans HBx.out.size (Nat.le_succ _)) _))); (· first | with_reducible exact heap_alloc_new _ _ | with_reducible exact blk_under _ _ _ | with_reducible exact blk_over _ _ _); rintro e w'' ⟨rfl, hby⟩; (have HBy : Below W.heap.size W w'' := by ((refine below_tr ?_ hby); (repeat (first | with_reducible exact HBx.out | with_reducible exact Below.refl _ _ | with_reducible refine below_drew ?_ | with_reducible refine below_drewN ?_ _ | with_reducible refine below_al ?_ _ | with_reducible refine below_set1 ?_ (Nat.le_refl _) _ | with_reducible refine below_set1 ?_ HBx.out.size _ | with_reducible refine below_set1 ?_ (Nat.le_trans HBx.out.size (Nat.le_succ _)) _)))); (replace HBy := Lib.hid HBy); (first | (have NN : NBlk w'' (w'.heap.size + 1) 0 0 ⟨#[]⟩ := by ((refine NBlk.below ?_ hby); with_reducible exact nblk_second _ _)) | (have NN : NBlk w'' w'.heap.size 0 0 ⟨#[]⟩ := by ((refine NBlk.below ?_ hby); (repeat (first | with_reducible exact NBlk.new _ _ _ _ | with_reducible refine nblk_drew ?_ | with_reducible refine nblk_drewN ?_ _ | with_reducible refine NBlk.al ?_ _)))) | (have NN : NBlk w'' W.heap.size 0 0 ⟨#[]⟩ := by ((refine NBlk.below ?_ hby); (repeat (first | with_reducible exact NBlk.new _ _ _ _ | with_reducible exact N1.out | with_reducible refine nblk_drew ?_ | with_reducible refine nblk_drewN ?_ _ | with_reducible refine NBlk.al ?_ _)))) | have NN := True.intro); (try (replace NN := NN.full; obtain ⟨⟨q0, q1, q2, q3, ql⟩, q4, q5, q6, q7⟩ := NN))))
  all_goals ((refine HQ.out _ _ _ _ _ _ _ _ _ _ _ ?_ ?_); (· (repeat (first | with_reducible exact HBy.out | with_reducible exact HBx.out | with_reducible exact Below.refl _ _ | with_reducible refine below_drew ?_ | with_reducible refine below_drewN ?_ _ | with_reducible refine below_al ?_ _ | with_reducible refine below_set1 ?_ (Nat.le_refl _) _ | with_reducible refine below_set1 ?_ HBy.out.size _ | with_reducible refine below_set1 ?_ HBx.out.size _ | with_reducible refine below_set1 ?_ (Nat.le_trans HBx.out.size (Nat.le_succ _)) _))); (· first | with_reducible exact at_new _ _ _ _ _ | with_reducible exact at_set4 q0 q1 ql _ _))
end Go.Proofs.YtihlbnflgjidaaaDoor
