/- Package eval: answer, where nothing is chosen. -/
import Derived.Test.YtndeihmclecmcaaGreatDoorEvH
namespace Go.Proofs.YtndeihmclecmcaaGreatDoor
open Go.RowKit
set_option linter.unusedVariables false
set_option linter.unusedSimpArgs false
def NodeB (w : World) (G : Nat) (n : NodeL) (pao kao : Option Addr) (pcap kcap : Nat) : Prop := w.heap[G]? = some (.cells #[.int .i64 n.kind, .int .i64 n.num, .string n.text, .slice pao n.parts.length pcap, .slice kao n.kids.length kcap] 35 (0, 0))
theorem NodeB.cells {w : World} {G : Nat} {n : NodeL} {pao kao : Option Addr} {pcap kcap : Nat} (h : NodeB w G n pao kao pcap kcap) :
    w.cell? ⟨G, 0, none⟩ = some (.int .i64 n.kind) ∧ w.cell? ⟨G, 1, none⟩ = some (.int .i64 n.num) ∧ w.cell? ⟨G, 2, none⟩ = some (.string n.text) ∧ w.cell? ⟨G, 3, none⟩ = some (.slice pao n.parts.length pcap) ∧ w.cell? ⟨G, 4, none⟩ = some (.slice kao n.kids.length kcap) :=
  ⟨cell_of_row w G 0 _ _ _ h, cell_of_row w G 1 _ _ _ h, cell_of_row w G 2 _ _ _ h, cell_of_row w G 3 _ _ _ h, cell_of_row w G 4 _ _ _ h⟩
theorem NodeB.below {w w' : World} {G : Nat} {n : NodeL} {pao kao : Option Addr} {pcap kcap : Nat} (h : NodeB w G n pao kao pcap kcap) (hb : Below w.heap.size w w') : NodeB w' G n pao kao pcap kcap := (hb.block G (Array.getElem?_eq_some_iff.1 h).1).trans h
theorem nodeB_al {w : World} {G : Nat} {n : NodeL} {pao kao : Option Addr} {pcap kcap : Nat} (h : NodeB w G n pao kao pcap kcap) (O : Obj) : NodeB (w.alloc O) G n pao kao pcap kcap := h.below (below_al (Below.refl _ _) _)
theorem nodeB_drew {w : World} {G : Nat} {n : NodeL} {pao kao : Option Addr} {pcap kcap : Nat} (h : NodeB w G n pao kao pcap kcap) : NodeB w.drew G n pao kao pcap kcap := h
theorem nodeB_drewN {w : World} {G : Nat} {n : NodeL} {pao kao : Option Addr} {pcap kcap : Nat} (h : NodeB w G n pao kao pcap kcap) (q : Nat) : NodeB (w.drewN q) G n pao kao pcap kcap := h
theorem nodeB_set {w : World} {G H o : Nat} {n : NodeL} {pao kao : Option Addr} {pcap kcap : Nat} (h : NodeB w G n pao kao pcap kcap) (hne : G < H) (u : Value) : NodeB (w.setCell ⟨H, o, none⟩ u) G n pao kao pcap kcap := (heap_setCell_other w ⟨H, o, none⟩ G u (by simp; omega)).trans h
theorem vblk_set4 {w : World} {H : Nat} (h : NBlk w H 0 0 ⟨#[]⟩) (v : VL) (lv : Value) : VBlk ((((w.setCell ⟨H, 0, none⟩ (.int .i64 v.kind)).setCell ⟨H, 1, none⟩ (.int .i64 v.num)).setCell ⟨H, 2, none⟩ (.string v.text)).setCell ⟨H, 3, none⟩ lv) H v lv :=
  heap_setCell_same _ H 3 _ _ lv (heap_setCell_same _ H 2 _ _ (.string v.text) (heap_setCell_same _ H 1 _ _ (.int .i64 v.num) (heap_setCell_same w H 0 _ _ (.int .i64 v.kind) h)))
theorem mid_set4 {w0 w V : World} {b g ga R : Nat} {nv vv : Value} {ns : List NodeL} {ab : List Int} {ps : List (VL × Value)} (h : Mid w0 w b g ga R nv ns ab vv ps V) (hwR : w.heap.size ≤ R) (hw0 : w0.heap.size ≤ R) (hbR : b < R) (haR : ga < R) {H : Nat} (hH : R + 1 ≤ H) (hne : ∀ k, vv.ownBlock = some k → k < H) (a c d e : Value) :
    Mid w0 w b g ga R nv ns ab vv ps ((((V.setCell ⟨H, 0, none⟩ a).setCell ⟨H, 1, none⟩ c).setCell ⟨H, 2, none⟩ d).setCell ⟨H, 3, none⟩ e) :=
  (((h.set1 hwR hw0 hbR haR hH hne 0 a).set1 hwR hw0 hbR haR hH hne 1 c).set1 hwR hw0 hbR haR hH hne 2 d).set1 hwR hw0 hbR haR hH hne 3 e
def findReg (n : Nat) : Code → Option Code
  | .region k ops d => if k = n then some (.region k ops d) else none
  | .seq a b => match findReg n a with
    | some c => some c
    | none => findReg n b
  | .block _ c => findReg n c
  | .scope c => findReg n c
  | .loop c => findReg n c
  | .cond _ a b => match findReg n a with
    | some c => some c
    | none => findReg n b
  | _ => none
/-- What take leaves. -/
structure Taken (w0 w w3 : World) (b g ga R G : Nat) (nv : Value) (ns : List NodeL) (ab : List Int) (ps : List (VL × Value)) (vs : List VL) (n : NodeL) (pao kao : Option Addr) (pcap kcap : Nat) (vv ao : Value) (V : World) : Prop where
  mid : Mid w0 w b g ga R nv ns ab vv ps V
  row : RowRd V 1 vs ao
  node : NodeB V G n pao kao pcap kcap
  far : ∀ k, vv.ownBlock = some k → k < w3.heap.size
theorem Taken.below {w0 w w3 V V' : World} {b g ga R G : Nat} {nv : Value} {ns : List NodeL} {ab : List Int} {ps : List (VL × Value)} {vs : List VL} {n : NodeL} {pao kao : Option Addr} {pcap kcap : Nat} {vv ao : Value} (h : Taken w0 w w3 b g ga R G nv ns ab ps vs n pao kao pcap kcap vv ao V) (k : Below V.heap.size V V') : Taken w0 w w3 b g ga R G nv ns ab ps vs n pao kao pcap kcap vv ao V' :=
  ⟨h.mid.below k, h.row.below k, h.node.below k, h.far⟩
noncomputable def reg3C : Code := ((Tryz.f72.body.bind (findReg 3)).getD .skip)
section
set_option maxHeartbeats 16000000 in
set_option maxRecDepth 1000000 in
theorem reg3 {x1 x2 x3 x4 x5 x7 x8 x9 x10 x11 x12 x13 x14 x15 x16 x17 x18 x19 x20 x21 x22 x23 x24 x25 x26 x27 x28 x29 x30 x31 x32 x33 x34 x35 x36 x37 x38 x39 x40 x41 x42 x43 x44 x45 x46 x47 x48 x49 x50 x51 x52 x53 x54 x55 x56 x57 x58 x59 x60 x61 : Value} {w0 w w3 : World} {b g ga R G : Nat} {nv : Value} {ns : List NodeL} {ab : List Int} {psT : List (VL × Value)} {vs : List VL} {n : NodeL} {pao kao : Option Addr} {pcap kcap : Nat} {r1 : VL × Int} {Q : Exit → Act → World → Prop}
    (LT : Hid (w.heap.size ≤ R ∧ w0.heap.size ≤ R ∧ b < R ∧ ga < R ∧ R < w3.heap.size)) (hb : b < w3.heap.size) (NB0 : Hid (NodeB w3 G n pao kao pcap kcap))
    (PN : Hid (∀ V, Below w3.heap.size w3 V → Calls Tryz.prog 99 #[.agg #[.int .i64 n.kind, .int .i64 n.num, .string n.text, .slice pao n.parts.length pcap, .slice kao n.kids.length kcap]] V (fun e V' => e = .returned (.int .i64 n.kids.length) ∧ Below w3.heap.size w3 V' ∧ Below V.heap.size V V')))
    (PT : Hid (∀ V, Below w3.heap.size w3 V → Calls Tryz.prog 98 #[.pointer (some ⟨b, 0, none⟩), .int .i64 n.kids.length] V (fun e V' => ∃ ao cap vv', e = .returned (.slice ao n.kids.length cap) ∧ Taken w0 w w3 b g ga R G nv ns ab psT vs n pao kao pcap kcap vv' (.slice ao n.kids.length cap) V' ∧ (∀ k, w3.heap.size ≤ k → V'.heap[k]? = V.heap[k]?) ∧ V.heap.size ≤ V'.heap.size)))
    (PM : Hid (∀ V vv' ao cap, Taken w0 w w3 b g ga R G nv ns ab psT vs n pao kao pcap kcap vv' (.slice ao n.kids.length cap) V → Calls Tryz.prog 97 #[.pointer (some ⟨b, 0, none⟩), .agg #[.int .i64 n.kind, .int .i64 n.num, .string n.text, .slice pao n.parts.length pcap, .slice kao n.kids.length kcap], .slice ao n.kids.length cap] V (fun e V' => ∃ lo lc, e = .returned (.tuple #[.agg #[.int .i64 r1.1.kind, .int .i64 r1.1.num, .string r1.1.text, .slice lo 0 lc], .int .i64 r1.2]) ∧ Mid w0 w b g ga R nv ns ab vv' psT V' ∧ (∀ k, vv'.ownBlock = some k → k < w3.heap.size) ∧ Below V.heap.size V V')))
    (HQ : Hid (∀ (y22 y23 y24 y25 y26 y27 y28 y29 y30 y31 : Value) (H : Nat) (W : World) (vv : Value) (lo : Option Addr) (lc : Nat), VBlk W H r1.1 (.slice lo 0 lc) → Mid w0 w b g ga R nv ns ab vv psT W → Q .normal ⟨#[.pointer (some ⟨b, 0, none⟩), x1, x2, x3, x4, x5, .pointer (some ⟨G, 0, none⟩), .pointer (some ⟨H, 0, none⟩), .int .i64 r1.2, x9, x10, x11, x12, x13, x14, x15, x16, x17, x18, x19, x20, x21, y22, y23, y24, y25, y26, y27, y28, y29, y30, y31, x32, x33, x34, x35, x36, x37, x38, x39, x40, x41, x42, x43, x44, x45, x46, x47, x48, x49, x50, x51, x52, x53, x54, x55, x56, x57, x58, x59, x60, x61], []⟩ W)) :
    Code.wp Tryz.prog reg3C Q ⟨#[.pointer (some ⟨b, 0, none⟩), x1, x2, x3, x4, x5, .pointer (some ⟨G, 0, none⟩), x7, x8, x9, x10, x11, x12, x13, x14, x15, x16, x17, x18, x19, x20, x21, x22, x23, x24, x25, x26, x27, x28, x29, x30, x31, x32, x33, x34, x35, x36, x37, x38, x39, x40, x41, x42, x43, x44, x45, x46, x47, x48, x49, x50, x51, x52, x53, x54, x55, x56, x57, x58, x59, x60, x61], []⟩ w3 := by
  obtain ⟨n0, n1, n2, n3, n4⟩ := NB0.out.cells
  have gl : G < w3.heap.size := (Array.getElem?_eq_some_iff.1 NB0.out).1
  conv => arg 2; whnf
  go_region_held3 (fun V => V.cell? ⟨G, 0, none⟩ = some (.int .i64 n.kind) ∧ V.cell? ⟨G, 1, none⟩ = some (.int .i64 n.num) ∧ V.cell? ⟨G, 2, none⟩ = some (.string n.text) ∧ V.cell? ⟨G, 3, none⟩ = some (.slice pao n.parts.length pcap) ∧ V.cell? ⟨G, 4, none⟩ = some (.slice kao n.kids.length kcap)) (((with_reducible refine NodeB.cells ?_) <;> (repeat (first | with_reducible exact N6.out | with_reducible exact N5.out | with_reducible exact N4.out | with_reducible exact NB0.out | with_reducible refine nodeB_drew ?_ | with_reducible refine nodeB_drewN ?_ _ | with_reducible refine nodeB_al ?_ _ | with_reducible refine nodeB_set ?_ (by omega) _)) <;> done)) (first
    | (go_at_call 99; refine (PN.out (w3.drewN _) (below_drawn w3 _)).mono ?_; rintro e w4 ⟨rfl, hb4, hv4⟩; have HB4 := Lib.hid hb4; have s4 := hb4.size; have N4 := Lib.hid (NB0.out.below hb4); clear hb4 hv4)
    | (go_at_call 99; refine (PN.out w3.drew (below_drawn w3 1)).mono ?_; rintro e w4 ⟨rfl, hb4, hv4⟩; have HB4 := Lib.hid hb4; have s4 := hb4.size; have N4 := Lib.hid (NB0.out.below hb4); clear hb4 hv4)
    | (go_at_call 99; refine (PN.out (w3.drew.alloc _) (below_al (below_drawn w3 1) _)).mono ?_; rintro e w4 ⟨rfl, hb4, hv4⟩; have HB4 := Lib.hid hb4; have s4 := hb4.size; have N4 := Lib.hid (NB0.out.below hb4); have Z4 := Lib.hid (show NBlk w4 w3.heap.size 0 0 ⟨#[]⟩ from (NBlk.new w3.drew 0 0 ⟨#[]⟩).below hv4); clear hb4 hv4)
    | (go_at_call 98; refine (PT.out w4 HB4.out).mono ?_; rintro e w5 ⟨ao3, cap3, vv', rfl, ht5, hk5, s5⟩; have T5 := Lib.hid ht5; have N5 := Lib.hid ht5.node; have Z5 := Lib.hid (show NBlk w5 w3.heap.size 0 0 ⟨#[]⟩ from (hk5 _ (Nat.le_refl _)).trans Z4.out); clear ht5 hk5)
    | (go_at_call 98; refine (PT.out w4 HB4.out).mono ?_; rintro e w5 ⟨ao3, cap3, vv', rfl, ht5, hk5, s5⟩; have T5 := Lib.hid ht5; have N5 := Lib.hid ht5.node; clear ht5 hk5)
    | (go_at_call 98; refine (PT.out (w4.alloc _) (below_al HB4.out _)).mono ?_; rintro e w5 ⟨ao3, cap3, vv', rfl, ht5, hk5, s5⟩; have T5 := Lib.hid ht5; have N5 := Lib.hid ht5.node; have Z5 := Lib.hid (show NBlk w5 w4.heap.size 0 0 ⟨#[]⟩ from (hk5 _ HB4.out.size).trans (NBlk.new w4 0 0 ⟨#[]⟩)); clear ht5 hk5)
    | (go_at_call 97; refine (PM.out w5 vv' ao3 cap3 T5.out).mono ?_; rintro e w6 ⟨lo, lc, rfl, hm6, hf6, hb6⟩; have M6 := Lib.hid hm6; have F6 := Lib.hid hf6; have s6 := hb6.size; have N6 := Lib.hid (N5.out.below hb6); have Z6 := Lib.hid (Z5.out.below hb6); obtain ⟨⟨e0, e1, e2, e3, e4⟩, f0, f1, f2, f3⟩ := Z6.out.full; clear hm6 hf6 hb6)
    | (go_at_call 97; refine (PM.out w5 vv' ao3 cap3 T5.out).mono ?_; rintro e w6 ⟨lo, lc, rfl, hm6, hf6, hb6⟩; have M6 := Lib.hid hm6; have F6 := Lib.hid hf6; have s6 := hb6.size; have N6 := Lib.hid (N5.out.below hb6); clear hm6 hf6 hb6)
    | (go_at_call 97; refine (PM.out (w5.alloc _) vv' ao3 cap3 (T5.out.below (below_al (Below.refl _ _) _))).mono ?_; rintro e w6 ⟨lo, lc, rfl, hm6, hf6, hb6⟩; have M6 := Lib.hid hm6; have F6 := Lib.hid hf6; have s6 := hb6.size; have N6 := Lib.hid ((nodeB_al N5.out _).below hb6); have Z6 := Lib.hid ((NBlk.new w5 0 0 ⟨#[]⟩).below hb6); obtain ⟨⟨e0, e1, e2, e3, e4⟩, f0, f1, f2, f3⟩ := Z6.out.full; clear hm6 hf6 hb6))
  all_goals first
    | exact HQ.out _ _ _ _ _ _ _ _ _ _ _ _ vv' lo lc (VBlk.new w6 r1.1 (.slice lo 0 lc)) (M6.out.below (below_al (Below.refl _ _) _))
    | exact HQ.out _ _ _ _ _ _ _ _ _ _ _ _ vv' lo lc (vblk_set4 Z6.out _ _) (mid_set4 M6.out LT.out.1 LT.out.2.1 LT.out.2.2.1 LT.out.2.2.2.1 (by have := LT.out.2.2.2.2; omega) (fun k hk => by have := F6.out k hk; omega) _ _ _ _)
end
end Go.Proofs.YtndeihmclecmcaaGreatDoor
