/- Steps by numbers. -/
import Derived.Test.YtmpakgabehplbaaVecN
import Derived.Test.YtmpakgabehplbaaDigC
import Derived.Test.YtmpakgabehplbaaTrJ
namespace Go.Proofs.Ytmpakgabehplbaa
open Go.RowKit
set_option linter.unusedVariables false
set_option linter.unusedSimpArgs false
/-- A step. -/
structure St6 where
  kind : Int
  name : ByteArray
  par : ByteArray
  lim : V3
def St6.val (st : St6) : Value := .agg #[.int .i64 st.kind, .string st.name, .string st.par, .int .i64 st.lim.c, .int .i64 st.lim.m, .int .i64 st.lim.p]
/-- Its six cells lie in block g. -/
def SBlk (w : World) (g : Nat) (st : St6) : Prop := w.heap[g]? = some (.cells #[.int .i64 st.kind, .string st.name, .string st.par, .int .i64 st.lim.c, .int .i64 st.lim.m, .int .i64 st.lim.p] 26 (0, 0))
theorem SBlk.lt {w : World} {g : Nat} {st : St6} (h : SBlk w g st) : g < w.heap.size := (Array.getElem?_eq_some_iff.1 h).1
theorem SBlk.below {w w' : World} {g : Nat} {st : St6} (h : SBlk w g st) (hb : Below w.heap.size w w') : SBlk w' g st := (hb.block g h.lt).trans h
theorem SBlk.cells {w : World} {g : Nat} {st : St6} (h : SBlk w g st) : w.cell? ⟨g, 0, none⟩ = some (.int .i64 st.kind) ∧ w.cell? ⟨g, 1, none⟩ = some (.string st.name) ∧ w.cell? ⟨g, 2, none⟩ = some (.string st.par) ∧ w.cell? ⟨g, 3, none⟩ = some (.int .i64 st.lim.c) ∧ w.cell? ⟨g, 4, none⟩ = some (.int .i64 st.lim.m) ∧ w.cell? ⟨g, 5, none⟩ = some (.int .i64 st.lim.p) :=
  ⟨(cell_of_row _ _ 0 _ _ _ h).trans rfl, (cell_of_row _ _ 1 _ _ _ h).trans rfl, (cell_of_row _ _ 2 _ _ _ h).trans rfl, (cell_of_row _ _ 3 _ _ _ h).trans rfl, (cell_of_row _ _ 4 _ _ _ h).trans rfl, (cell_of_row _ _ 5 _ _ _ h).trans rfl⟩
theorem SBlk.new (w : World) (st : St6) : SBlk (w.alloc (.cells #[.int .i64 st.kind, .string st.name, .string st.par, .int .i64 st.lim.c, .int .i64 st.lim.m, .int .i64 st.lim.p] 26)) w.heap.size st := heap_alloc_new w _
theorem SBlk.set {w : World} {g : Nat} {st : St6} (h : SBlk w g st) (s2 : St6) : SBlk ((((((w.setCell ⟨g, 0, none⟩ (.int .i64 s2.kind)).setCell ⟨g, 1, none⟩ (.string s2.name)).setCell ⟨g, 2, none⟩ (.string s2.par)).setCell ⟨g, 3, none⟩ (.int .i64 s2.lim.c)).setCell ⟨g, 4, none⟩ (.int .i64 s2.lim.m)).setCell ⟨g, 5, none⟩ (.int .i64 s2.lim.p)) g s2 := by
  have h0 := heap_setCell_same w g 0 _ _ (.int .i64 s2.kind) h
  have h1 := heap_setCell_same _ g 1 _ _ (.string s2.name) h0
  have h2 := heap_setCell_same _ g 2 _ _ (.string s2.par) h1
  have h3 := heap_setCell_same _ g 3 _ _ (.int .i64 s2.lim.c) h2
  have h4 := heap_setCell_same _ g 4 _ _ (.int .i64 s2.lim.m) h3
  exact heap_setCell_same _ g 5 _ _ (.int .i64 s2.lim.p) h4
theorem SBlk.setPar {w : World} {g : Nat} {st : St6} (h : SBlk w g st) (p : ByteArray) : SBlk (w.setCell ⟨g, 2, none⟩ (.string p)) g ⟨st.kind, st.name, p, st.lim⟩ := heap_setCell_same w g 2 _ _ (.string p) h
theorem SBlk.setLim {w : World} {g : Nat} {st : St6} (h : SBlk w g st) (v : V3) : SBlk (((w.setCell ⟨g, 3, none⟩ (.int .i64 v.c)).setCell ⟨g, 4, none⟩ (.int .i64 v.m)).setCell ⟨g, 5, none⟩ (.int .i64 v.p)) g ⟨st.kind, st.name, st.par, v⟩ := by
  have h0 := heap_setCell_same w g 3 _ _ (.int .i64 v.c) h
  have h1 := heap_setCell_same _ g 4 _ _ (.int .i64 v.m) h0
  exact heap_setCell_same _ g 5 _ _ (.int .i64 v.p) h1
theorem SBlk.free {w : World} {g : Nat} {st : St6} (h : SBlk w g st) (o : Nat) : w.frozen? ⟨g, o, none⟩ = false := by
  unfold SBlk at h
  simp [World.frozen?, h]
theorem SBlk.far {w : World} {g f : Nat} {st : St6} (h : SBlk w g st) (hf : g ≠ f) (o : Nat) (v : Value) : SBlk (w.setCell ⟨f, o, none⟩ v) g st := (heap_setCell_other w ⟨f, o, none⟩ g v hf).trans h
end Go.Proofs.Ytmpakgabehplbaa
namespace Go.Proofs.Ytmpakgabehplbaa
open Go.RowKit
set_option linter.unusedVariables false
set_option linter.unusedSimpArgs false
def stM (a b c : Nat) : St6 := ⟨1 + ((a % 4 : Nat) : Int), letS (b % 25), if a % 4 = 0 ∨ a % 4 = 2 then (if c % 5 = 0 then ⟨#[]⟩ else letS (c % 25)) else ⟨#[]⟩, if a % 4 ≤ 1 then ⟨((a / 4 * 3 : Nat) : Int), ((a / 4 * 3 : Nat) : Int), ((a / 4 * 3 : Nat) : Int)⟩ else z3⟩
section
variable (w : World)
set_option maxHeartbeats 16000000 in
set_option maxRecDepth 100000 in
theorem lstep (a b c : Nat) (ha : a ≤ 255) (hb : b ≤ 255) (hc : c ≤ 255) : Calls Try.prog 26 #[.int .u8 (a : Int), .int .u8 (b : Int), .int .u8 (c : Int)] w (Made (stM a b c).val w) := by
  have SM := Lib.hid (show stM a b c = ⟨1 + ((a % 4 : Nat) : Int), letS (b % 25), if a % 4 = 0 ∨ a % 4 = 2 then (if c % 5 = 0 then ⟨#[]⟩ else letS (c % 25)) else ⟨#[]⟩, if a % 4 ≤ 1 then ⟨((a / 4 * 3 : Nat) : Int), ((a / 4 * 3 : Nat) : Int), ((a / 4 * 3 : Nat) : Int)⟩ else z3⟩ from rfl)
  have wa : IntKind.i64.wrap (a : Int) = (a : Int) := by rw [IntKind.wrap_i64]; omega
  have wb1 : IntKind.u8.wrap (97 + (b : Int) % 25) = 97 + (b : Int) % 25 := by rw [IntKind.wrap_u8]; omega
  have wc1 : IntKind.u8.wrap (97 + (c : Int) % 25) = 97 + (c : Int) % 25 := by rw [IntKind.wrap_u8]; omega
  have DB := Lib.hid (fun W => ddig_conv W (97 + (b : Int) % 25) (UInt8.ofNat (97 + b % 25)) (by
    rw [UInt8.toNat_ofNat', show (97 + b % 25) % 2 ^ 8 = 97 + b % 25 by omega]
    push_cast
    rfl))
  have DC := Lib.hid (fun W => ddig_conv W (97 + (c : Int) % 25) (UInt8.ofNat (97 + c % 25)) (by
    rw [UInt8.toNat_ofNat', show (97 + c % 25) % 2 ^ 8 = 97 + c % 25 by omega]
    push_cast
    rfl))
  have el : ∀ k, (⟨#[UInt8.ofNat (97 + k)]⟩ : ByteArray) = letS k := fun _ => rfl
  simp only [el] at DB DC
  generalize letS (b % 25) = nb at *
  generalize letS (c % 25) = nc at *
  obtain ⟨n3, hn3⟩ : ∃ n3 : Nat, n3 = a / 4 * 3 := ⟨_, rfl⟩
  obtain ⟨n4, hn4⟩ : ∃ n4 : Nat, n4 = a / 4 := ⟨_, rfl⟩
  have q4 : (a : Int) / 4 = (n4 : Int) := by rw [hn4]; push_cast; rfl
  have q3 : (n4 : Int) * 3 = (n3 : Int) := by rw [hn3, hn4]; push_cast; rfl
  have w3 : IntKind.i64.wrap ((n4 : Int) * 3) = (n3 : Int) := by rw [IntKind.wrap_i64]; omega
  rw [← hn3] at SM
  have RB := Lib.hid (below_al (Below.refl w.heap.size w) (.cells #[.int .i64 0, .string ⟨#[]⟩, .string ⟨#[]⟩, .int .i64 0, .int .i64 0, .int .i64 0] 26))
  have R0 := Lib.hid (SBlk.new w ⟨0, ⟨#[]⟩, ⟨#[]⟩, z3⟩)
  simp only [z3] at R0
  have hcv := DB.out (w.alloc (.cells #[.int .i64 0, .string ⟨#[]⟩, .string ⟨#[]⟩, .int .i64 0, .int .i64 0, .int .i64 0] 26))
  rw [show (w.alloc (.cells #[.int .i64 0, .string ⟨#[]⟩, .string ⟨#[]⟩, .int .i64 0, .int .i64 0, .int .i64 0] 26)).heap.size = w.heap.size + 1 by simp] at hcv
  rcases (show a % 4 = 0 ∨ a % 4 = 1 ∨ a % 4 = 2 ∨ a % 4 = 3 by omega) with h4 | h4 | h4 | h4
  · have qa : (a : Int) % 4 = 0 := by omega
    clear hn3 hn4
    by_cases h5 : c % 5 = 0
    · have q5 : (c : Int) % 5 = 0 := by omega
      have S1 := Lib.hid (show SBlk (((w.alloc (.cells #[.int .i64 0, .string ⟨#[]⟩, .string ⟨#[]⟩, .int .i64 0, .int .i64 0, .int .i64 0] 26)).alloc (.cells #[.int .u8 (97 + (b : Int) % 25)] 5)).alloc (.cells #[.int .i64 1, .string nb, .string ⟨#[]⟩, .int .i64 0, .int .i64 0, .int .i64 0] 26)) (w.heap.size + 2) ⟨1, nb, ⟨#[]⟩, z3⟩ from heap_at (by simp))
      have R1 := Lib.hid (show SBlk (((w.alloc (.cells #[.int .i64 0, .string ⟨#[]⟩, .string ⟨#[]⟩, .int .i64 0, .int .i64 0, .int .i64 0] 26)).alloc (.cells #[.int .u8 (97 + (b : Int) % 25)] 5)).alloc (.cells #[.int .i64 1, .string nb, .string ⟨#[]⟩, .int .i64 0, .int .i64 0, .int .i64 0] 26)) w.heap.size ⟨0, ⟨#[]⟩, ⟨#[]⟩, z3⟩ from SBlk.below R0.out (below_al (below_al (Below.refl _ (w.alloc (.cells #[.int .i64 0, .string ⟨#[]⟩, .string ⟨#[]⟩, .int .i64 0, .int .i64 0, .int .i64 0] 26))) (.cells #[.int .u8 (97 + (b : Int) % 25)] 5)) (.cells #[.int .i64 1, .string nb, .string ⟨#[]⟩, .int .i64 0, .int .i64 0, .int .i64 0] 26)))
      have B1 := Lib.hid (below_al (below_al RB.out (.cells #[.int .u8 (97 + (b : Int) % 25)] 5)) (.cells #[.int .i64 1, .string nb, .string ⟨#[]⟩, .int .i64 0, .int .i64 0, .int .i64 0] 26))
      go_enter Try.func26, Try.ntmps26
      go_upto_region 2 with fail
      generalize ((w.alloc (.cells #[.int .i64 0, .string ⟨#[]⟩, .string ⟨#[]⟩, .int .i64 0, .int .i64 0, .int .i64 0] 26)).alloc (.cells #[.int .u8 (97 + (b : Int) % 25)] 5)).alloc (.cells #[.int .i64 1, .string nb, .string ⟨#[]⟩, .int .i64 0, .int .i64 0, .int .i64 0] 26) = W1 at *
      have NB := Lib.hid (show w.heap.size + 2 ≠ w.heap.size from by omega)
      have NB2 := Lib.hid (show w.heap.size ≠ w.heap.size + 2 from by omega)
      clear hcv RB R0
      obtain ⟨c0, c1, c2, c3, c4, c5⟩ := S1.out.cells
      have hcv2 := DC.out W1
      have BU := Lib.hid (below_al (Below.refl W1.heap.size W1) (.cells #[.int .u8 (97 + (c : Int) % 25)] 5))
      have S1a := Lib.hid (S1.out.below BU.out)
      have R1a := Lib.hid (R1.out.below BU.out)
      have B1a := Lib.hid (below_tr B1.out BU.out)
      have g2 := (S1a.out.cells).2.2.1
      have f2 := S1a.out.free 2
      have S2 := Lib.hid (S1a.out.setPar nc)
      have R2 := Lib.hid (R1a.out.far NB2.out 2 (.string nc))
      have B2 := Lib.hid (show Below w.heap.size w ((W1.alloc (.cells #[.int .u8 (97 + (c : Int) % 25)] 5)).setCell ⟨w.heap.size + 2, 2, none⟩ (.string nc)) from B1a.out.setCell (by show w.heap.size ≤ w.heap.size + 2; omega) _)
      go_upto_region 4 with fail
      generalize (W1.alloc (.cells #[.int .u8 (97 + (c : Int) % 25)] 5)).setCell ⟨w.heap.size + 2, 2, none⟩ (.string nc) = W2 at *
      clear c0 c1 c2 c3 c4 c5 g2 f2 hcv2 BU S1a R1a B1a S1 R1 B1
      obtain ⟨c0, c1, c2, c3, c4, c5⟩ := S2.out.cells
      have f2 := S2.out.free 2
      have S3 := Lib.hid (S2.out.setPar ⟨#[]⟩)
      have R3 := Lib.hid (R2.out.far NB2.out 2 (.string ⟨#[]⟩))
      have B3 := Lib.hid (show Below w.heap.size w (W2.setCell ⟨w.heap.size + 2, 2, none⟩ (.string ⟨#[]⟩)) from B2.out.setCell (by show w.heap.size ≤ w.heap.size + 2; omega) _)
      go_upto_region 6 with fail
      generalize W2.setCell ⟨w.heap.size + 2, 2, none⟩ (.string ⟨#[]⟩) = W3 at *
      clear c0 c1 c2 c3 c4 c5 f2 S2 R2 B2
      obtain ⟨c0, c1, c2, c3, c4, c5⟩ := S3.out.cells
      have f3 := S3.out.free 3
      have f4 := S3.out.free 4
      have f5 := S3.out.free 5
      have S4 := Lib.hid (S3.out.setLim ⟨(n3 : Int), (n3 : Int), (n3 : Int)⟩)
      have R4 := Lib.hid (((R3.out.far NB2.out 3 (.int .i64 (n3 : Int))).far NB2.out 4 (.int .i64 (n3 : Int))).far NB2.out 5 (.int .i64 (n3 : Int)))
      have B4 := Lib.hid (show Below w.heap.size w (((W3.setCell ⟨w.heap.size + 2, 3, none⟩ (.int .i64 (n3 : Int))).setCell ⟨w.heap.size + 2, 4, none⟩ (.int .i64 (n3 : Int))).setCell ⟨w.heap.size + 2, 5, none⟩ (.int .i64 (n3 : Int))) from ((B3.out.setCell (by show w.heap.size ≤ w.heap.size + 2; omega) _).setCell (by show w.heap.size ≤ w.heap.size + 2; omega) _).setCell (by show w.heap.size ≤ w.heap.size + 2; omega) _)
      simp only at S4
      go_upto_region 9 with fail
      generalize ((W3.setCell ⟨w.heap.size + 2, 3, none⟩ (.int .i64 (n3 : Int))).setCell ⟨w.heap.size + 2, 4, none⟩ (.int .i64 (n3 : Int))).setCell ⟨w.heap.size + 2, 5, none⟩ (.int .i64 (n3 : Int)) = W4 at *
      clear c0 c1 c2 c3 c4 c5 f3 f4 f5 S3 R3 B3
      obtain ⟨c0, c1, c2, c3, c4, c5⟩ := S4.out.cells
      obtain ⟨e0, e1, e2, e3, e4, e5⟩ := R4.out.cells
      have f0 := R4.out.free 0
      have f1 := R4.out.free 1
      have f2 := R4.out.free 2
      have f3 := R4.out.free 3
      have f4 := R4.out.free 4
      have f5 := R4.out.free 5
      simp only [z3] at e0 e1 e2 e3 e4 e5 c0 c1 c2 c3 c4 c5
      go_wp2_with fail
      have TS := R4.out.set ⟨1, nb, ⟨#[]⟩, ⟨(n3 : Int), (n3 : Int), (n3 : Int)⟩⟩
      have BF := Lib.hid (show Below w.heap.size w ((((((W4.setCell ⟨w.heap.size, 0, none⟩ (.int .i64 1)).setCell ⟨w.heap.size, 1, none⟩ (.string nb)).setCell ⟨w.heap.size, 2, none⟩ (.string ⟨#[]⟩)).setCell ⟨w.heap.size, 3, none⟩ (.int .i64 (n3 : Int))).setCell ⟨w.heap.size, 4, none⟩ (.int .i64 (n3 : Int))).setCell ⟨w.heap.size, 5, none⟩ (.int .i64 (n3 : Int))) from (((((B4.out.setCell (Nat.le_refl _) _).setCell (Nat.le_refl _) _).setCell (Nat.le_refl _) _).setCell (Nat.le_refl _) _).setCell (Nat.le_refl _) _).setCell (Nat.le_refl _) _)
      generalize ((((((W4.setCell ⟨w.heap.size, 0, none⟩ (.int .i64 1)).setCell ⟨w.heap.size, 1, none⟩ (.string nb)).setCell ⟨w.heap.size, 2, none⟩ (.string ⟨#[]⟩)).setCell ⟨w.heap.size, 3, none⟩ (.int .i64 (n3 : Int))).setCell ⟨w.heap.size, 4, none⟩ (.int .i64 (n3 : Int))).setCell ⟨w.heap.size, 5, none⟩ (.int .i64 (n3 : Int))) = wf at *
      obtain ⟨d0, d1, d2, d3, d4, d5⟩ := TS.cells
      have E := Lib.hid (show stM a b c = ⟨1, nb, ⟨#[]⟩, ⟨(n3 : Int), (n3 : Int), (n3 : Int)⟩⟩ from by rw [SM.out, h4]; simp [h5])
      exact bodyPost_ret (v := .agg #[.int .i64 1, .string nb, .string ⟨#[]⟩, .int .i64 (n3 : Int), .int .i64 (n3 : Int), .int .i64 (n3 : Int)]) (by simp [results, Try.results26, go_sem, d0, d1, d2, d3, d4, d5]) rfl ⟨by rw [E.out]; rfl, BF.out⟩
    · have q5 : ((c : Int) % 5 == 0) = false := beq_false_of_ne (by omega)
      have q5' : ¬ (c : Int) % 5 = 0 := by omega
      have S1 := Lib.hid (show SBlk (((w.alloc (.cells #[.int .i64 0, .string ⟨#[]⟩, .string ⟨#[]⟩, .int .i64 0, .int .i64 0, .int .i64 0] 26)).alloc (.cells #[.int .u8 (97 + (b : Int) % 25)] 5)).alloc (.cells #[.int .i64 1, .string nb, .string ⟨#[]⟩, .int .i64 0, .int .i64 0, .int .i64 0] 26)) (w.heap.size + 2) ⟨1, nb, ⟨#[]⟩, z3⟩ from heap_at (by simp))
      have R1 := Lib.hid (show SBlk (((w.alloc (.cells #[.int .i64 0, .string ⟨#[]⟩, .string ⟨#[]⟩, .int .i64 0, .int .i64 0, .int .i64 0] 26)).alloc (.cells #[.int .u8 (97 + (b : Int) % 25)] 5)).alloc (.cells #[.int .i64 1, .string nb, .string ⟨#[]⟩, .int .i64 0, .int .i64 0, .int .i64 0] 26)) w.heap.size ⟨0, ⟨#[]⟩, ⟨#[]⟩, z3⟩ from SBlk.below R0.out (below_al (below_al (Below.refl _ (w.alloc (.cells #[.int .i64 0, .string ⟨#[]⟩, .string ⟨#[]⟩, .int .i64 0, .int .i64 0, .int .i64 0] 26))) (.cells #[.int .u8 (97 + (b : Int) % 25)] 5)) (.cells #[.int .i64 1, .string nb, .string ⟨#[]⟩, .int .i64 0, .int .i64 0, .int .i64 0] 26)))
      have B1 := Lib.hid (below_al (below_al RB.out (.cells #[.int .u8 (97 + (b : Int) % 25)] 5)) (.cells #[.int .i64 1, .string nb, .string ⟨#[]⟩, .int .i64 0, .int .i64 0, .int .i64 0] 26))
      go_enter Try.func26, Try.ntmps26
      go_upto_region 2 with fail
      generalize ((w.alloc (.cells #[.int .i64 0, .string ⟨#[]⟩, .string ⟨#[]⟩, .int .i64 0, .int .i64 0, .int .i64 0] 26)).alloc (.cells #[.int .u8 (97 + (b : Int) % 25)] 5)).alloc (.cells #[.int .i64 1, .string nb, .string ⟨#[]⟩, .int .i64 0, .int .i64 0, .int .i64 0] 26) = W1 at *
      have NB := Lib.hid (show w.heap.size + 2 ≠ w.heap.size from by omega)
      have NB2 := Lib.hid (show w.heap.size ≠ w.heap.size + 2 from by omega)
      clear hcv RB R0
      obtain ⟨c0, c1, c2, c3, c4, c5⟩ := S1.out.cells
      have hcv2 := DC.out W1
      have BU := Lib.hid (below_al (Below.refl W1.heap.size W1) (.cells #[.int .u8 (97 + (c : Int) % 25)] 5))
      have S1a := Lib.hid (S1.out.below BU.out)
      have R1a := Lib.hid (R1.out.below BU.out)
      have B1a := Lib.hid (below_tr B1.out BU.out)
      have g2 := (S1a.out.cells).2.2.1
      have f2 := S1a.out.free 2
      have S2 := Lib.hid (S1a.out.setPar nc)
      have R2 := Lib.hid (R1a.out.far NB2.out 2 (.string nc))
      have B2 := Lib.hid (show Below w.heap.size w ((W1.alloc (.cells #[.int .u8 (97 + (c : Int) % 25)] 5)).setCell ⟨w.heap.size + 2, 2, none⟩ (.string nc)) from B1a.out.setCell (by show w.heap.size ≤ w.heap.size + 2; omega) _)
      go_upto_region 4 with fail
      generalize (W1.alloc (.cells #[.int .u8 (97 + (c : Int) % 25)] 5)).setCell ⟨w.heap.size + 2, 2, none⟩ (.string nc) = W2 at *
      clear c0 c1 c2 c3 c4 c5 g2 f2 hcv2 BU S1a R1a B1a S1 R1 B1
      obtain ⟨c0, c1, c2, c3, c4, c5⟩ := S2.out.cells
      have f3 := S2.out.free 3
      have f4 := S2.out.free 4
      have f5 := S2.out.free 5
      have S4 := Lib.hid (S2.out.setLim ⟨(n3 : Int), (n3 : Int), (n3 : Int)⟩)
      have R4 := Lib.hid (((R2.out.far NB2.out 3 (.int .i64 (n3 : Int))).far NB2.out 4 (.int .i64 (n3 : Int))).far NB2.out 5 (.int .i64 (n3 : Int)))
      have B4 := Lib.hid (show Below w.heap.size w (((W2.setCell ⟨w.heap.size + 2, 3, none⟩ (.int .i64 (n3 : Int))).setCell ⟨w.heap.size + 2, 4, none⟩ (.int .i64 (n3 : Int))).setCell ⟨w.heap.size + 2, 5, none⟩ (.int .i64 (n3 : Int))) from ((B2.out.setCell (by show w.heap.size ≤ w.heap.size + 2; omega) _).setCell (by show w.heap.size ≤ w.heap.size + 2; omega) _).setCell (by show w.heap.size ≤ w.heap.size + 2; omega) _)
      simp only at S4
      go_upto_region 9 with fail
      generalize ((W2.setCell ⟨w.heap.size + 2, 3, none⟩ (.int .i64 (n3 : Int))).setCell ⟨w.heap.size + 2, 4, none⟩ (.int .i64 (n3 : Int))).setCell ⟨w.heap.size + 2, 5, none⟩ (.int .i64 (n3 : Int)) = W4 at *
      clear c0 c1 c2 c3 c4 c5 f3 f4 f5 S2 R2 B2
      obtain ⟨c0, c1, c2, c3, c4, c5⟩ := S4.out.cells
      obtain ⟨e0, e1, e2, e3, e4, e5⟩ := R4.out.cells
      have f0 := R4.out.free 0
      have f1 := R4.out.free 1
      have f2 := R4.out.free 2
      have f3 := R4.out.free 3
      have f4 := R4.out.free 4
      have f5 := R4.out.free 5
      simp only [z3] at e0 e1 e2 e3 e4 e5 c0 c1 c2 c3 c4 c5
      go_wp2_with fail
      have TS := R4.out.set ⟨1, nb, nc, ⟨(n3 : Int), (n3 : Int), (n3 : Int)⟩⟩
      have BF := Lib.hid (show Below w.heap.size w ((((((W4.setCell ⟨w.heap.size, 0, none⟩ (.int .i64 1)).setCell ⟨w.heap.size, 1, none⟩ (.string nb)).setCell ⟨w.heap.size, 2, none⟩ (.string nc)).setCell ⟨w.heap.size, 3, none⟩ (.int .i64 (n3 : Int))).setCell ⟨w.heap.size, 4, none⟩ (.int .i64 (n3 : Int))).setCell ⟨w.heap.size, 5, none⟩ (.int .i64 (n3 : Int))) from (((((B4.out.setCell (Nat.le_refl _) _).setCell (Nat.le_refl _) _).setCell (Nat.le_refl _) _).setCell (Nat.le_refl _) _).setCell (Nat.le_refl _) _).setCell (Nat.le_refl _) _)
      generalize ((((((W4.setCell ⟨w.heap.size, 0, none⟩ (.int .i64 1)).setCell ⟨w.heap.size, 1, none⟩ (.string nb)).setCell ⟨w.heap.size, 2, none⟩ (.string nc)).setCell ⟨w.heap.size, 3, none⟩ (.int .i64 (n3 : Int))).setCell ⟨w.heap.size, 4, none⟩ (.int .i64 (n3 : Int))).setCell ⟨w.heap.size, 5, none⟩ (.int .i64 (n3 : Int))) = wf at *
      obtain ⟨d0, d1, d2, d3, d4, d5⟩ := TS.cells
      have E := Lib.hid (show stM a b c = ⟨1, nb, nc, ⟨(n3 : Int), (n3 : Int), (n3 : Int)⟩⟩ from by rw [SM.out, h4]; simp [h5])
      exact bodyPost_ret (v := .agg #[.int .i64 1, .string nb, .string nc, .int .i64 (n3 : Int), .int .i64 (n3 : Int), .int .i64 (n3 : Int)]) (by simp [results, Try.results26, go_sem, d0, d1, d2, d3, d4, d5]) rfl ⟨by rw [E.out]; rfl, BF.out⟩
  · have qa : (a : Int) % 4 = 1 := by omega
    clear hn3 hn4
    have S1 := Lib.hid (show SBlk (((w.alloc (.cells #[.int .i64 0, .string ⟨#[]⟩, .string ⟨#[]⟩, .int .i64 0, .int .i64 0, .int .i64 0] 26)).alloc (.cells #[.int .u8 (97 + (b : Int) % 25)] 5)).alloc (.cells #[.int .i64 2, .string nb, .string ⟨#[]⟩, .int .i64 0, .int .i64 0, .int .i64 0] 26)) (w.heap.size + 2) ⟨2, nb, ⟨#[]⟩, z3⟩ from heap_at (by simp))
    have R1 := Lib.hid (show SBlk (((w.alloc (.cells #[.int .i64 0, .string ⟨#[]⟩, .string ⟨#[]⟩, .int .i64 0, .int .i64 0, .int .i64 0] 26)).alloc (.cells #[.int .u8 (97 + (b : Int) % 25)] 5)).alloc (.cells #[.int .i64 2, .string nb, .string ⟨#[]⟩, .int .i64 0, .int .i64 0, .int .i64 0] 26)) w.heap.size ⟨0, ⟨#[]⟩, ⟨#[]⟩, z3⟩ from SBlk.below R0.out (below_al (below_al (Below.refl _ (w.alloc (.cells #[.int .i64 0, .string ⟨#[]⟩, .string ⟨#[]⟩, .int .i64 0, .int .i64 0, .int .i64 0] 26))) (.cells #[.int .u8 (97 + (b : Int) % 25)] 5)) (.cells #[.int .i64 2, .string nb, .string ⟨#[]⟩, .int .i64 0, .int .i64 0, .int .i64 0] 26)))
    have B1 := Lib.hid (below_al (below_al RB.out (.cells #[.int .u8 (97 + (b : Int) % 25)] 5)) (.cells #[.int .i64 2, .string nb, .string ⟨#[]⟩, .int .i64 0, .int .i64 0, .int .i64 0] 26))
    go_enter Try.func26, Try.ntmps26
    go_upto_region 2 with fail
    generalize ((w.alloc (.cells #[.int .i64 0, .string ⟨#[]⟩, .string ⟨#[]⟩, .int .i64 0, .int .i64 0, .int .i64 0] 26)).alloc (.cells #[.int .u8 (97 + (b : Int) % 25)] 5)).alloc (.cells #[.int .i64 2, .string nb, .string ⟨#[]⟩, .int .i64 0, .int .i64 0, .int .i64 0] 26) = W1 at *
    have NB := Lib.hid (show w.heap.size + 2 ≠ w.heap.size from by omega)
    have NB2 := Lib.hid (show w.heap.size ≠ w.heap.size + 2 from by omega)
    clear hcv RB R0
    obtain ⟨c0, c1, c2, c3, c4, c5⟩ := S1.out.cells
    have f3 := S1.out.free 3
    have f4 := S1.out.free 4
    have f5 := S1.out.free 5
    have S4 := Lib.hid (S1.out.setLim ⟨(n3 : Int), (n3 : Int), (n3 : Int)⟩)
    have R4 := Lib.hid (((R1.out.far NB2.out 3 (.int .i64 (n3 : Int))).far NB2.out 4 (.int .i64 (n3 : Int))).far NB2.out 5 (.int .i64 (n3 : Int)))
    have B4 := Lib.hid (show Below w.heap.size w (((W1.setCell ⟨w.heap.size + 2, 3, none⟩ (.int .i64 (n3 : Int))).setCell ⟨w.heap.size + 2, 4, none⟩ (.int .i64 (n3 : Int))).setCell ⟨w.heap.size + 2, 5, none⟩ (.int .i64 (n3 : Int))) from ((B1.out.setCell (by show w.heap.size ≤ w.heap.size + 2; omega) _).setCell (by show w.heap.size ≤ w.heap.size + 2; omega) _).setCell (by show w.heap.size ≤ w.heap.size + 2; omega) _)
    simp only at S4
    go_upto_region 9 with fail
    generalize ((W1.setCell ⟨w.heap.size + 2, 3, none⟩ (.int .i64 (n3 : Int))).setCell ⟨w.heap.size + 2, 4, none⟩ (.int .i64 (n3 : Int))).setCell ⟨w.heap.size + 2, 5, none⟩ (.int .i64 (n3 : Int)) = W4 at *
    clear c0 c1 c2 c3 c4 c5 f3 f4 f5 S1 R1 B1
    obtain ⟨c0, c1, c2, c3, c4, c5⟩ := S4.out.cells
    obtain ⟨e0, e1, e2, e3, e4, e5⟩ := R4.out.cells
    have f0 := R4.out.free 0
    have f1 := R4.out.free 1
    have f2 := R4.out.free 2
    have f3 := R4.out.free 3
    have f4 := R4.out.free 4
    have f5 := R4.out.free 5
    simp only [z3] at e0 e1 e2 e3 e4 e5 c0 c1 c2 c3 c4 c5
    go_wp2_with fail
    have TS := R4.out.set ⟨2, nb, ⟨#[]⟩, ⟨(n3 : Int), (n3 : Int), (n3 : Int)⟩⟩
    have BF := Lib.hid (show Below w.heap.size w ((((((W4.setCell ⟨w.heap.size, 0, none⟩ (.int .i64 2)).setCell ⟨w.heap.size, 1, none⟩ (.string nb)).setCell ⟨w.heap.size, 2, none⟩ (.string ⟨#[]⟩)).setCell ⟨w.heap.size, 3, none⟩ (.int .i64 (n3 : Int))).setCell ⟨w.heap.size, 4, none⟩ (.int .i64 (n3 : Int))).setCell ⟨w.heap.size, 5, none⟩ (.int .i64 (n3 : Int))) from (((((B4.out.setCell (Nat.le_refl _) _).setCell (Nat.le_refl _) _).setCell (Nat.le_refl _) _).setCell (Nat.le_refl _) _).setCell (Nat.le_refl _) _).setCell (Nat.le_refl _) _)
    generalize ((((((W4.setCell ⟨w.heap.size, 0, none⟩ (.int .i64 2)).setCell ⟨w.heap.size, 1, none⟩ (.string nb)).setCell ⟨w.heap.size, 2, none⟩ (.string ⟨#[]⟩)).setCell ⟨w.heap.size, 3, none⟩ (.int .i64 (n3 : Int))).setCell ⟨w.heap.size, 4, none⟩ (.int .i64 (n3 : Int))).setCell ⟨w.heap.size, 5, none⟩ (.int .i64 (n3 : Int))) = wf at *
    obtain ⟨d0, d1, d2, d3, d4, d5⟩ := TS.cells
    have E := Lib.hid (show stM a b c = ⟨2, nb, ⟨#[]⟩, ⟨(n3 : Int), (n3 : Int), (n3 : Int)⟩⟩ from by rw [SM.out, h4]; simp)
    exact bodyPost_ret (v := .agg #[.int .i64 2, .string nb, .string ⟨#[]⟩, .int .i64 (n3 : Int), .int .i64 (n3 : Int), .int .i64 (n3 : Int)]) (by simp [results, Try.results26, go_sem, d0, d1, d2, d3, d4, d5]) rfl ⟨by rw [E.out]; rfl, BF.out⟩
  · have qa : (a : Int) % 4 = 2 := by omega
    clear hn3 hn4
    by_cases h5 : c % 5 = 0
    · have q5 : (c : Int) % 5 = 0 := by omega
      have S1 := Lib.hid (show SBlk (((w.alloc (.cells #[.int .i64 0, .string ⟨#[]⟩, .string ⟨#[]⟩, .int .i64 0, .int .i64 0, .int .i64 0] 26)).alloc (.cells #[.int .u8 (97 + (b : Int) % 25)] 5)).alloc (.cells #[.int .i64 3, .string nb, .string ⟨#[]⟩, .int .i64 0, .int .i64 0, .int .i64 0] 26)) (w.heap.size + 2) ⟨3, nb, ⟨#[]⟩, z3⟩ from heap_at (by simp))
      have R1 := Lib.hid (show SBlk (((w.alloc (.cells #[.int .i64 0, .string ⟨#[]⟩, .string ⟨#[]⟩, .int .i64 0, .int .i64 0, .int .i64 0] 26)).alloc (.cells #[.int .u8 (97 + (b : Int) % 25)] 5)).alloc (.cells #[.int .i64 3, .string nb, .string ⟨#[]⟩, .int .i64 0, .int .i64 0, .int .i64 0] 26)) w.heap.size ⟨0, ⟨#[]⟩, ⟨#[]⟩, z3⟩ from SBlk.below R0.out (below_al (below_al (Below.refl _ (w.alloc (.cells #[.int .i64 0, .string ⟨#[]⟩, .string ⟨#[]⟩, .int .i64 0, .int .i64 0, .int .i64 0] 26))) (.cells #[.int .u8 (97 + (b : Int) % 25)] 5)) (.cells #[.int .i64 3, .string nb, .string ⟨#[]⟩, .int .i64 0, .int .i64 0, .int .i64 0] 26)))
      have B1 := Lib.hid (below_al (below_al RB.out (.cells #[.int .u8 (97 + (b : Int) % 25)] 5)) (.cells #[.int .i64 3, .string nb, .string ⟨#[]⟩, .int .i64 0, .int .i64 0, .int .i64 0] 26))
      go_enter Try.func26, Try.ntmps26
      go_upto_region 2 with fail
      generalize ((w.alloc (.cells #[.int .i64 0, .string ⟨#[]⟩, .string ⟨#[]⟩, .int .i64 0, .int .i64 0, .int .i64 0] 26)).alloc (.cells #[.int .u8 (97 + (b : Int) % 25)] 5)).alloc (.cells #[.int .i64 3, .string nb, .string ⟨#[]⟩, .int .i64 0, .int .i64 0, .int .i64 0] 26) = W1 at *
      have NB := Lib.hid (show w.heap.size + 2 ≠ w.heap.size from by omega)
      have NB2 := Lib.hid (show w.heap.size ≠ w.heap.size + 2 from by omega)
      clear hcv RB R0
      obtain ⟨c0, c1, c2, c3, c4, c5⟩ := S1.out.cells
      have hcv2 := DC.out W1
      have BU := Lib.hid (below_al (Below.refl W1.heap.size W1) (.cells #[.int .u8 (97 + (c : Int) % 25)] 5))
      have S1a := Lib.hid (S1.out.below BU.out)
      have R1a := Lib.hid (R1.out.below BU.out)
      have B1a := Lib.hid (below_tr B1.out BU.out)
      have g2 := (S1a.out.cells).2.2.1
      have f2 := S1a.out.free 2
      have S2 := Lib.hid (S1a.out.setPar nc)
      have R2 := Lib.hid (R1a.out.far NB2.out 2 (.string nc))
      have B2 := Lib.hid (show Below w.heap.size w ((W1.alloc (.cells #[.int .u8 (97 + (c : Int) % 25)] 5)).setCell ⟨w.heap.size + 2, 2, none⟩ (.string nc)) from B1a.out.setCell (by show w.heap.size ≤ w.heap.size + 2; omega) _)
      go_upto_region 4 with fail
      generalize (W1.alloc (.cells #[.int .u8 (97 + (c : Int) % 25)] 5)).setCell ⟨w.heap.size + 2, 2, none⟩ (.string nc) = W2 at *
      clear c0 c1 c2 c3 c4 c5 g2 f2 hcv2 BU S1a R1a B1a S1 R1 B1
      obtain ⟨c0, c1, c2, c3, c4, c5⟩ := S2.out.cells
      have f2 := S2.out.free 2
      have S3 := Lib.hid (S2.out.setPar ⟨#[]⟩)
      have R3 := Lib.hid (R2.out.far NB2.out 2 (.string ⟨#[]⟩))
      have B3 := Lib.hid (show Below w.heap.size w (W2.setCell ⟨w.heap.size + 2, 2, none⟩ (.string ⟨#[]⟩)) from B2.out.setCell (by show w.heap.size ≤ w.heap.size + 2; omega) _)
      go_upto_region 6 with fail
      generalize W2.setCell ⟨w.heap.size + 2, 2, none⟩ (.string ⟨#[]⟩) = W3 at *
      clear c0 c1 c2 c3 c4 c5 f2 S2 R2 B2
      obtain ⟨c0, c1, c2, c3, c4, c5⟩ := S3.out.cells
      obtain ⟨e0, e1, e2, e3, e4, e5⟩ := R3.out.cells
      have f0 := R3.out.free 0
      have f1 := R3.out.free 1
      have f2 := R3.out.free 2
      have f3 := R3.out.free 3
      have f4 := R3.out.free 4
      have f5 := R3.out.free 5
      simp only [z3] at e0 e1 e2 e3 e4 e5 c0 c1 c2 c3 c4 c5
      go_wp2_with fail
      have TS := R3.out.set ⟨3, nb, ⟨#[]⟩, z3⟩
      simp only [z3] at TS
      have BF := Lib.hid (show Below w.heap.size w ((((((W3.setCell ⟨w.heap.size, 0, none⟩ (.int .i64 3)).setCell ⟨w.heap.size, 1, none⟩ (.string nb)).setCell ⟨w.heap.size, 2, none⟩ (.string ⟨#[]⟩)).setCell ⟨w.heap.size, 3, none⟩ (.int .i64 0)).setCell ⟨w.heap.size, 4, none⟩ (.int .i64 0)).setCell ⟨w.heap.size, 5, none⟩ (.int .i64 0)) from (((((B3.out.setCell (Nat.le_refl _) _).setCell (Nat.le_refl _) _).setCell (Nat.le_refl _) _).setCell (Nat.le_refl _) _).setCell (Nat.le_refl _) _).setCell (Nat.le_refl _) _)
      generalize ((((((W3.setCell ⟨w.heap.size, 0, none⟩ (.int .i64 3)).setCell ⟨w.heap.size, 1, none⟩ (.string nb)).setCell ⟨w.heap.size, 2, none⟩ (.string ⟨#[]⟩)).setCell ⟨w.heap.size, 3, none⟩ (.int .i64 0)).setCell ⟨w.heap.size, 4, none⟩ (.int .i64 0)).setCell ⟨w.heap.size, 5, none⟩ (.int .i64 0)) = wf at *
      obtain ⟨d0, d1, d2, d3, d4, d5⟩ := TS.cells
      have E := Lib.hid (show stM a b c = ⟨3, nb, ⟨#[]⟩, z3⟩ from by rw [SM.out, h4]; simp [h5])
      exact bodyPost_ret (v := .agg #[.int .i64 3, .string nb, .string ⟨#[]⟩, .int .i64 0, .int .i64 0, .int .i64 0]) (by simp [results, Try.results26, go_sem, d0, d1, d2, d3, d4, d5]) rfl ⟨by rw [E.out]; rfl, BF.out⟩
    · have q5 : ((c : Int) % 5 == 0) = false := beq_false_of_ne (by omega)
      have q5' : ¬ (c : Int) % 5 = 0 := by omega
      have S1 := Lib.hid (show SBlk (((w.alloc (.cells #[.int .i64 0, .string ⟨#[]⟩, .string ⟨#[]⟩, .int .i64 0, .int .i64 0, .int .i64 0] 26)).alloc (.cells #[.int .u8 (97 + (b : Int) % 25)] 5)).alloc (.cells #[.int .i64 3, .string nb, .string ⟨#[]⟩, .int .i64 0, .int .i64 0, .int .i64 0] 26)) (w.heap.size + 2) ⟨3, nb, ⟨#[]⟩, z3⟩ from heap_at (by simp))
      have R1 := Lib.hid (show SBlk (((w.alloc (.cells #[.int .i64 0, .string ⟨#[]⟩, .string ⟨#[]⟩, .int .i64 0, .int .i64 0, .int .i64 0] 26)).alloc (.cells #[.int .u8 (97 + (b : Int) % 25)] 5)).alloc (.cells #[.int .i64 3, .string nb, .string ⟨#[]⟩, .int .i64 0, .int .i64 0, .int .i64 0] 26)) w.heap.size ⟨0, ⟨#[]⟩, ⟨#[]⟩, z3⟩ from SBlk.below R0.out (below_al (below_al (Below.refl _ (w.alloc (.cells #[.int .i64 0, .string ⟨#[]⟩, .string ⟨#[]⟩, .int .i64 0, .int .i64 0, .int .i64 0] 26))) (.cells #[.int .u8 (97 + (b : Int) % 25)] 5)) (.cells #[.int .i64 3, .string nb, .string ⟨#[]⟩, .int .i64 0, .int .i64 0, .int .i64 0] 26)))
      have B1 := Lib.hid (below_al (below_al RB.out (.cells #[.int .u8 (97 + (b : Int) % 25)] 5)) (.cells #[.int .i64 3, .string nb, .string ⟨#[]⟩, .int .i64 0, .int .i64 0, .int .i64 0] 26))
      go_enter Try.func26, Try.ntmps26
      go_upto_region 2 with fail
      generalize ((w.alloc (.cells #[.int .i64 0, .string ⟨#[]⟩, .string ⟨#[]⟩, .int .i64 0, .int .i64 0, .int .i64 0] 26)).alloc (.cells #[.int .u8 (97 + (b : Int) % 25)] 5)).alloc (.cells #[.int .i64 3, .string nb, .string ⟨#[]⟩, .int .i64 0, .int .i64 0, .int .i64 0] 26) = W1 at *
      have NB := Lib.hid (show w.heap.size + 2 ≠ w.heap.size from by omega)
      have NB2 := Lib.hid (show w.heap.size ≠ w.heap.size + 2 from by omega)
      clear hcv RB R0
      obtain ⟨c0, c1, c2, c3, c4, c5⟩ := S1.out.cells
      have hcv2 := DC.out W1
      have BU := Lib.hid (below_al (Below.refl W1.heap.size W1) (.cells #[.int .u8 (97 + (c : Int) % 25)] 5))
      have S1a := Lib.hid (S1.out.below BU.out)
      have R1a := Lib.hid (R1.out.below BU.out)
      have B1a := Lib.hid (below_tr B1.out BU.out)
      have g2 := (S1a.out.cells).2.2.1
      have f2 := S1a.out.free 2
      have S2 := Lib.hid (S1a.out.setPar nc)
      have R2 := Lib.hid (R1a.out.far NB2.out 2 (.string nc))
      have B2 := Lib.hid (show Below w.heap.size w ((W1.alloc (.cells #[.int .u8 (97 + (c : Int) % 25)] 5)).setCell ⟨w.heap.size + 2, 2, none⟩ (.string nc)) from B1a.out.setCell (by show w.heap.size ≤ w.heap.size + 2; omega) _)
      go_upto_region 4 with fail
      generalize (W1.alloc (.cells #[.int .u8 (97 + (c : Int) % 25)] 5)).setCell ⟨w.heap.size + 2, 2, none⟩ (.string nc) = W2 at *
      clear c0 c1 c2 c3 c4 c5 g2 f2 hcv2 BU S1a R1a B1a S1 R1 B1
      obtain ⟨c0, c1, c2, c3, c4, c5⟩ := S2.out.cells
      obtain ⟨e0, e1, e2, e3, e4, e5⟩ := R2.out.cells
      have f0 := R2.out.free 0
      have f1 := R2.out.free 1
      have f2 := R2.out.free 2
      have f3 := R2.out.free 3
      have f4 := R2.out.free 4
      have f5 := R2.out.free 5
      simp only [z3] at e0 e1 e2 e3 e4 e5 c0 c1 c2 c3 c4 c5
      go_wp2_with fail
      have TS := R2.out.set ⟨3, nb, nc, z3⟩
      simp only [z3] at TS
      have BF := Lib.hid (show Below w.heap.size w ((((((W2.setCell ⟨w.heap.size, 0, none⟩ (.int .i64 3)).setCell ⟨w.heap.size, 1, none⟩ (.string nb)).setCell ⟨w.heap.size, 2, none⟩ (.string nc)).setCell ⟨w.heap.size, 3, none⟩ (.int .i64 0)).setCell ⟨w.heap.size, 4, none⟩ (.int .i64 0)).setCell ⟨w.heap.size, 5, none⟩ (.int .i64 0)) from (((((B2.out.setCell (Nat.le_refl _) _).setCell (Nat.le_refl _) _).setCell (Nat.le_refl _) _).setCell (Nat.le_refl _) _).setCell (Nat.le_refl _) _).setCell (Nat.le_refl _) _)
      generalize ((((((W2.setCell ⟨w.heap.size, 0, none⟩ (.int .i64 3)).setCell ⟨w.heap.size, 1, none⟩ (.string nb)).setCell ⟨w.heap.size, 2, none⟩ (.string nc)).setCell ⟨w.heap.size, 3, none⟩ (.int .i64 0)).setCell ⟨w.heap.size, 4, none⟩ (.int .i64 0)).setCell ⟨w.heap.size, 5, none⟩ (.int .i64 0)) = wf at *
      obtain ⟨d0, d1, d2, d3, d4, d5⟩ := TS.cells
      have E := Lib.hid (show stM a b c = ⟨3, nb, nc, z3⟩ from by rw [SM.out, h4]; simp [h5])
      exact bodyPost_ret (v := .agg #[.int .i64 3, .string nb, .string nc, .int .i64 0, .int .i64 0, .int .i64 0]) (by simp [results, Try.results26, go_sem, d0, d1, d2, d3, d4, d5]) rfl ⟨by rw [E.out]; rfl, BF.out⟩
  · have qa : (a : Int) % 4 = 3 := by omega
    clear hn3 hn4
    have S1 := Lib.hid (show SBlk (((w.alloc (.cells #[.int .i64 0, .string ⟨#[]⟩, .string ⟨#[]⟩, .int .i64 0, .int .i64 0, .int .i64 0] 26)).alloc (.cells #[.int .u8 (97 + (b : Int) % 25)] 5)).alloc (.cells #[.int .i64 4, .string nb, .string ⟨#[]⟩, .int .i64 0, .int .i64 0, .int .i64 0] 26)) (w.heap.size + 2) ⟨4, nb, ⟨#[]⟩, z3⟩ from heap_at (by simp))
    have R1 := Lib.hid (show SBlk (((w.alloc (.cells #[.int .i64 0, .string ⟨#[]⟩, .string ⟨#[]⟩, .int .i64 0, .int .i64 0, .int .i64 0] 26)).alloc (.cells #[.int .u8 (97 + (b : Int) % 25)] 5)).alloc (.cells #[.int .i64 4, .string nb, .string ⟨#[]⟩, .int .i64 0, .int .i64 0, .int .i64 0] 26)) w.heap.size ⟨0, ⟨#[]⟩, ⟨#[]⟩, z3⟩ from SBlk.below R0.out (below_al (below_al (Below.refl _ (w.alloc (.cells #[.int .i64 0, .string ⟨#[]⟩, .string ⟨#[]⟩, .int .i64 0, .int .i64 0, .int .i64 0] 26))) (.cells #[.int .u8 (97 + (b : Int) % 25)] 5)) (.cells #[.int .i64 4, .string nb, .string ⟨#[]⟩, .int .i64 0, .int .i64 0, .int .i64 0] 26)))
    have B1 := Lib.hid (below_al (below_al RB.out (.cells #[.int .u8 (97 + (b : Int) % 25)] 5)) (.cells #[.int .i64 4, .string nb, .string ⟨#[]⟩, .int .i64 0, .int .i64 0, .int .i64 0] 26))
    go_enter Try.func26, Try.ntmps26
    go_upto_region 2 with fail
    generalize ((w.alloc (.cells #[.int .i64 0, .string ⟨#[]⟩, .string ⟨#[]⟩, .int .i64 0, .int .i64 0, .int .i64 0] 26)).alloc (.cells #[.int .u8 (97 + (b : Int) % 25)] 5)).alloc (.cells #[.int .i64 4, .string nb, .string ⟨#[]⟩, .int .i64 0, .int .i64 0, .int .i64 0] 26) = W1 at *
    have NB := Lib.hid (show w.heap.size + 2 ≠ w.heap.size from by omega)
    have NB2 := Lib.hid (show w.heap.size ≠ w.heap.size + 2 from by omega)
    clear hcv RB R0
    obtain ⟨c0, c1, c2, c3, c4, c5⟩ := S1.out.cells
    obtain ⟨e0, e1, e2, e3, e4, e5⟩ := R1.out.cells
    have f0 := R1.out.free 0
    have f1 := R1.out.free 1
    have f2 := R1.out.free 2
    have f3 := R1.out.free 3
    have f4 := R1.out.free 4
    have f5 := R1.out.free 5
    simp only [z3] at e0 e1 e2 e3 e4 e5 c0 c1 c2 c3 c4 c5
    go_wp2_with fail
    have TS := R1.out.set ⟨4, nb, ⟨#[]⟩, z3⟩
    simp only [z3] at TS
    have BF := Lib.hid (show Below w.heap.size w ((((((W1.setCell ⟨w.heap.size, 0, none⟩ (.int .i64 4)).setCell ⟨w.heap.size, 1, none⟩ (.string nb)).setCell ⟨w.heap.size, 2, none⟩ (.string ⟨#[]⟩)).setCell ⟨w.heap.size, 3, none⟩ (.int .i64 0)).setCell ⟨w.heap.size, 4, none⟩ (.int .i64 0)).setCell ⟨w.heap.size, 5, none⟩ (.int .i64 0)) from (((((B1.out.setCell (Nat.le_refl _) _).setCell (Nat.le_refl _) _).setCell (Nat.le_refl _) _).setCell (Nat.le_refl _) _).setCell (Nat.le_refl _) _).setCell (Nat.le_refl _) _)
    generalize ((((((W1.setCell ⟨w.heap.size, 0, none⟩ (.int .i64 4)).setCell ⟨w.heap.size, 1, none⟩ (.string nb)).setCell ⟨w.heap.size, 2, none⟩ (.string ⟨#[]⟩)).setCell ⟨w.heap.size, 3, none⟩ (.int .i64 0)).setCell ⟨w.heap.size, 4, none⟩ (.int .i64 0)).setCell ⟨w.heap.size, 5, none⟩ (.int .i64 0)) = wf at *
    obtain ⟨d0, d1, d2, d3, d4, d5⟩ := TS.cells
    have E := Lib.hid (show stM a b c = ⟨4, nb, ⟨#[]⟩, z3⟩ from by rw [SM.out, h4]; simp)
    exact bodyPost_ret (v := .agg #[.int .i64 4, .string nb, .string ⟨#[]⟩, .int .i64 0, .int .i64 0, .int .i64 0]) (by simp [results, Try.results26, go_sem, d0, d1, d2, d3, d4, d5]) rfl ⟨by rw [E.out]; rfl, BF.out⟩
end
end Go.Proofs.Ytmpakgabehplbaa
