/- Package parse: May of blocks that may be. -/
import Derived.Test.YtlkdicabmikhkaaGreatDoorWtA
namespace Go.Proofs.YtlkdicabmikhkaaGreatDoor
open Go.RowKit Go.Maps
set_option linter.unusedVariables false
set_option linter.unusedSimpArgs false
inductive BlkL where
  | mk (kind : Int) (label : ByteArray) (attrs : List (ByteArray × List NodeL)) (blocks : List BlkL)
def BlkL.kind : BlkL → Int | .mk k _ _ _ => k
def BlkL.label : BlkL → ByteArray | .mk _ l _ _ => l
def BlkL.attrs : BlkL → List (ByteArray × List NodeL) | .mk _ _ a _ => a
def BlkL.blocks : BlkL → List BlkL | .mk _ _ _ b => b
/-- Blocks as a slice value reads, at most so many levels of them. -/
def BlksRd : Nat → World → Value → List BlkL → Prop
  | 0, _, v, l => l = [] ∧ ∃ ao cap, v = .slice ao 0 cap
  | d + 1, w, v, l => ∃ ao cap, v = .slice ao l.length cap ∧ ∀ (i : Nat) (b : BlkL), l[i]? = some b → ∃ (g o : Nat) (ato : Option Addr) (atc : Nat) (bo : Option Addr) (bc : Nat), ao = some ⟨g, o, none⟩ ∧
      w.cell? ⟨g, o + i * 4, none⟩ = some (.int .i64 b.kind) ∧ w.cell? ⟨g, o + i * 4 + 1, none⟩ = some (.string b.label) ∧ w.cell? ⟨g, o + i * 4 + 2, none⟩ = some (.slice ato b.attrs.length atc) ∧ w.cell? ⟨g, o + i * 4 + 3, none⟩ = some (.slice bo b.blocks.length bc) ∧
      AttrsRd w (.slice ato b.attrs.length atc) b.attrs ∧ BlksRd d w (.slice bo b.blocks.length bc) b.blocks
theorem BlksRd.below {w w' : World} (hb : Below w.heap.size w w') : ∀ {d : Nat} {v : Value} {l : List BlkL}, BlksRd d w v l → BlksRd d w' v l := by
  intro d
  induction d with
  | zero => intro v l h; exact h
  | succ d ih =>
    intro v l h
    obtain ⟨ao, cap, rfl, hc⟩ := h
    refine ⟨ao, cap, rfl, fun i b hi => ?_⟩
    obtain ⟨g, o, ato, atc, bo, bc, e, c0, c1, c2, c3, ha, hr⟩ := hc i b hi
    exact ⟨g, o, ato, atc, bo, bc, e, hold hb c0, hold hb c1, hold hb c2, hold hb c3, ha.below hb, ih hr⟩
theorem BlksRd.len {w : World} {d : Nat} {v : Value} {l : List BlkL} (h : BlksRd d w v l) : ∃ ao cap, v = .slice ao l.length cap := by
  cases d with
  | zero => obtain ⟨rfl, ao, cap, rfl⟩ := h; exact ⟨ao, cap, rfl⟩
  | succ d => obtain ⟨ao, cap, rfl, -⟩ := h; exact ⟨ao, cap, rfl⟩
theorem BlksRd.more {w : World} : ∀ {d : Nat} {v : Value} {l : List BlkL}, BlksRd d w v l → BlksRd (d + 1) w v l := by
  intro d
  induction d with
  | zero =>
    intro v l h
    obtain ⟨rfl, ao, cap, rfl⟩ := h
    exact ⟨ao, cap, rfl, fun i b hi => by simp at hi⟩
  | succ d ih =>
    intro v l h
    obtain ⟨ao, cap, rfl, hc⟩ := h
    refine ⟨ao, cap, rfl, fun i b hi => ?_⟩
    obtain ⟨g, o, ato, atc, bo, bc, e, c0, c1, c2, c3, ha, hr⟩ := hc i b hi
    exact ⟨g, o, ato, atc, bo, bc, e, c0, c1, c2, c3, ha, ih hr⟩
/-- What a block may be, but for the blocks within. -/
inductive BlkOK (b : BlkL) : Prop
  | define (k : b.kind = 5) (l : labelB b.label = true) (a : b.attrs = []) (x : ∀ x ∈ b.blocks, x.kind ≠ 5) : BlkOK b
  | plain (k : b.kind = 1 ∨ b.kind = 3 ∨ b.kind = 4) (l : labelB b.label = true) (a : AttrsOK b.attrs) (x : b.blocks = []) : BlkOK b
  | locals (k : b.kind = 2) (l : b.label = ⟨#[]⟩) (a : AttrsOK b.attrs) (x : b.blocks = []) : BlkOK b
def BlksOK : Nat → List BlkL → Prop
  | 0, l => l = []
  | d + 1, l => l.length ≤ 1000 ∧ ∀ b ∈ l, BlkOK b ∧ b.label.size ≤ 100000 ∧ BlksOK d b.blocks
theorem BlksOK.few {d : Nat} {l : List BlkL} (h : BlksOK d l) : l.length ≤ 1000 := by
  cases d with
  | zero => obtain rfl : l = [] := h; simp
  | succ d => exact h.1
def blkV (b : BlkL) (ato : Option Addr) (atc : Nat) (bo : Option Addr) (bc : Nat) : Value := .agg #[.int .i64 b.kind, .string b.label, .slice ato b.attrs.length atc, .slice bo b.blocks.length bc]
section
variable (w : World)
set_option maxRecDepth 20000 in
theorem pdefine (k : Int) (s : ByteArray) (x y : Value) : Calls Tryz.prog 25 #[.agg #[.int .i64 k, .string s, x, y]] w (Made (.bool (k == 5)) w) := by
  have B := Lib.hid (below_al (Below.refl w.heap.size w) (.cells #[.int .i64 k, .string s, x, y] 28))
  go_enter Tryz.func25, Tryz.ntmps25
  go_wp2_with fail
  go_ret
  exact ⟨rfl, B.out⟩
set_option maxHeartbeats 1000000 in
set_option maxRecDepth 20000 in
theorem pindexDef (d : Nat) (bv : Value) (l : List BlkL) (h : BlksRd d w bv l) (hl : l.length ≤ 1000) (hk : ∀ x ∈ l, x.kind ≠ 5) :
    Calls Tryz.prog 38 #[bv, .func (.func 25) #[] #[]] w (Made (.int .i64 (-1)) w) := by
  have H := Lib.hid h.more
  have HK := Lib.hid hk
  obtain ⟨ao, cap, rfl⟩ := h.len
  clear h hk
  go_enter Tryz.func38, Tryz.ntmps38
  go_wp2_with fail
  go_loopg [8] l.length (fun m v wr => ∃ j : Nat, v = .int .i64 j ∧ l.length - j ≤ m ∧ j ≤ l.length ∧ Hid (Below w.heap.size w wr))
  case atStart => exact ⟨0, rfl, Nat.le_refl _, Nat.zero_le _, Lib.hid (Below.refl _ _)⟩
  case round =>
    obtain ⟨j, rfl, hm, hj, B⟩ := hrel
    have HM := Lib.hid hm
    clear hm
    by_cases hjl : j < l.length
    · obtain ⟨b, hb⟩ : ∃ b, l[j]? = some b := ⟨_, List.getElem?_eq_getElem hjl⟩
      have hbk : (b.kind == 5) = false := by simpa using HK.out b (List.mem_of_getElem? hb)
      obtain ⟨ao2, cap2, e2, hat⟩ := H.out.below B.out
      simp at e2
      obtain ⟨rfl, rfl⟩ := e2
      obtain ⟨g, o, ato, atc, bo, bc, rfl, c0, c1, c2, c3, -, -⟩ := hat j b hb
      have CC := Lib.hid (pdefine wr b.kind b.label (.slice ato b.attrs.length atc) (.slice bo b.blocks.length bc))
      rw [hbk] at CC
      clear hat hb hbk
      go_wp2_with fail
      refine CC.out.mono ?_
      rintro e w1 ⟨rfl, hb1⟩
      have B1 := Lib.hid (B.out.trans (hb1.mono B.out.size))
      clear hb1
      go_wp2_with fail
      go_roundg (l.length - (j + 1))
      case rel => exact ⟨j + 1, rfl, Nat.le_refl _, hjl, B1⟩
      case measure => have := HM.out; omega
    · go_wp2_with fail
      go_ret
      exact ⟨rfl, B.out⟩
set_option maxRecDepth 20000 in
theorem pcontainsDef (d : Nat) (bv : Value) (l : List BlkL) (h : BlksRd d w bv l) (hl : l.length ≤ 1000) (hk : ∀ x ∈ l, x.kind ≠ 5) :
    Calls Tryz.prog 24 #[bv, .func (.func 25) #[] #[]] w (Made (.bool false) w) := by
  have C := Lib.hid (pindexDef w d bv l h hl hk)
  clear h hk
  go_enter Tryz.func24, Tryz.ntmps24
  go_wp2_with fail
  refine C.out.mono ?_
  rintro e w1 ⟨rfl, hb1⟩
  go_wp2_with fail
  go_ret
  exact ⟨rfl, hb1⟩
set_option maxHeartbeats 1000000 in
set_option maxRecDepth 20000 in
theorem pblockM (d : Nat) (b : BlkL) (ato : Option Addr) (atc : Nat) (bo : Option Addr) (bc : Nat) (ha : AttrsRd w (.slice ato b.attrs.length atc) b.attrs) (hb : BlksRd d w (.slice bo b.blocks.length bc) b.blocks) (ho : BlkOK b) (hl : b.blocks.length ≤ 1000) (hs : b.label.size ≤ 100000) (hv : ErrVar w) :
    Calls Tryz.prog 15 #[blkV b ato atc bo bc] w (Made (.bool true) w) := by
  have B0 := Lib.hid (below_al (Below.refl w.heap.size w) (.cells #[.int .i64 b.kind, .string b.label, .slice ato b.attrs.length atc, .slice bo b.blocks.length bc] 28))
  have HA := Lib.hid (ha.below B0.out)
  have HB := Lib.hid (hb.below B0.out)
  have V := Lib.hid (hv.below B0.out hv.lt)
  have LS := Lib.hid (show b.label.size ≤ maxLen by unfold maxLen; omega)
  clear ha hb hv
  have NB := Lib.hid (heap_alloc_new w (.cells #[.int .i64 b.kind, .string b.label, .slice ato b.attrs.length atc, .slice bo b.blocks.length bc] 28))
  unfold blkV
  rcases ho with ⟨k, l, a, x⟩ | ⟨k, l, a, x⟩ | ⟨k, l, a, x⟩
  · have k5 : (b.kind == 5) = true := by simpa using k
    have ha0 : b.attrs.length = 0 := by rw [a]; rfl
    have CL := Lib.hid (label_any b.label (w.alloc (.cells #[.int .i64 b.kind, .string b.label, .slice ato b.attrs.length atc, .slice bo b.blocks.length bc] 28)) LS.out)
    rw [l] at CL
    have HX := Lib.hid x
    rw [ha0] at B0 HB V CL NB ⊢
    clear k a x l ha0 HA
    go_enter Tryz.func15, Tryz.ntmps15
    go_wp2_with fail
    generalize w.alloc (.cells #[.int .i64 b.kind, .string b.label, .slice ato 0 atc, .slice bo b.blocks.length bc] 28) = wa at *
    refine CL.out.mono ?_
    rintro e w1 ⟨rfl, hb1⟩
    have N1 := Lib.hid ((hb1.block _ (Array.getElem?_eq_some_iff.1 NB.out).1).trans NB.out)
    have c2 := cell_of_row _ _ 2 _ _ _ N1.out
    have c3 := cell_of_row _ _ 3 _ _ _ N1.out
    simp at c2 c3
    have B1 := Lib.hid (B0.out.trans (hb1.mono B0.out.size))
    have PA := Lib.hid (pcontainsDef w1 d _ b.blocks (HB.out.below hb1) hl HX.out)
    clear hb1 CL
    go_wp2_with fail
    refine PA.out.mono ?_
    rintro e w2 ⟨rfl, hb2⟩
    have B2 := Lib.hid (B1.out.trans (hb2.mono B1.out.size))
    clear hb2 PA
    go_wp2_with fail
    go_ret
    exact ⟨rfl, B2.out⟩
  · have k5 : (b.kind == 5) = false := by simp; omega
    rcases k with k | k | k
    · have k1 : (b.kind == 1) = true := by simp; omega
      have CL := Lib.hid (label_any b.label (w.alloc (.cells #[.int .i64 b.kind, .string b.label, .slice ato b.attrs.length atc, .slice bo b.blocks.length bc] 28)) LS.out)
      rw [l] at CL
      have AO := Lib.hid a
      have hb0 : b.blocks.length = 0 := by rw [x]; rfl
      rw [hb0] at B0 HA V CL NB ⊢
      clear k a x l hb0 HB
      go_enter Tryz.func15, Tryz.ntmps15
      go_wp2_with fail
      generalize w.alloc (.cells #[.int .i64 b.kind, .string b.label, .slice ato b.attrs.length atc, .slice bo 0 bc] 28) = wa at *
      refine CL.out.mono ?_
      rintro e w1 ⟨rfl, hb1⟩
      have N1 := Lib.hid ((hb1.block _ (Array.getElem?_eq_some_iff.1 NB.out).1).trans NB.out)
      have c2 := cell_of_row _ _ 2 _ _ _ N1.out
      simp at c2
      have B1 := Lib.hid (B0.out.trans (hb1.mono B0.out.size))
      have PA := Lib.hid (pattrsT w1 _ b.attrs (HA.out.below hb1) AO.out (V.out.below hb1 V.out.lt))
      clear hb1 CL
      go_wp2_with fail
      refine PA.out.mono ?_
      rintro e w2 ⟨rfl, hb2⟩
      have N2 := Lib.hid ((hb2.block _ (Array.getElem?_eq_some_iff.1 N1.out).1).trans N1.out)
      have c3 := cell_of_row _ _ 3 _ _ _ N2.out
      simp at c3
      have B2 := Lib.hid (B1.out.trans (hb2.mono B1.out.size))
      clear hb2 PA
      go_wp2_with fail
      go_ret
      exact ⟨rfl, B2.out⟩
    · have k1 : (b.kind == 1) = false := by simp; omega
      have k3 : (b.kind == 3) = true := by simp; omega
      have CL := Lib.hid (label_any b.label (w.alloc (.cells #[.int .i64 b.kind, .string b.label, .slice ato b.attrs.length atc, .slice bo b.blocks.length bc] 28)) LS.out)
      rw [l] at CL
      have AO := Lib.hid a
      have hb0 : b.blocks.length = 0 := by rw [x]; rfl
      rw [hb0] at B0 HA V CL NB ⊢
      clear k a x l hb0 HB
      go_enter Tryz.func15, Tryz.ntmps15
      go_wp2_with fail
      generalize w.alloc (.cells #[.int .i64 b.kind, .string b.label, .slice ato b.attrs.length atc, .slice bo 0 bc] 28) = wa at *
      refine CL.out.mono ?_
      rintro e w1 ⟨rfl, hb1⟩
      have N1 := Lib.hid ((hb1.block _ (Array.getElem?_eq_some_iff.1 NB.out).1).trans NB.out)
      have c2 := cell_of_row _ _ 2 _ _ _ N1.out
      simp at c2
      have B1 := Lib.hid (B0.out.trans (hb1.mono B0.out.size))
      have PA := Lib.hid (pattrsT w1 _ b.attrs (HA.out.below hb1) AO.out (V.out.below hb1 V.out.lt))
      clear hb1 CL
      go_wp2_with fail
      refine PA.out.mono ?_
      rintro e w2 ⟨rfl, hb2⟩
      have N2 := Lib.hid ((hb2.block _ (Array.getElem?_eq_some_iff.1 N1.out).1).trans N1.out)
      have c3 := cell_of_row _ _ 3 _ _ _ N2.out
      simp at c3
      have B2 := Lib.hid (B1.out.trans (hb2.mono B1.out.size))
      clear hb2 PA
      go_wp2_with fail
      go_ret
      exact ⟨rfl, B2.out⟩
    · have k1 : (b.kind == 1) = false := by simp; omega
      have k3 : (b.kind == 3) = false := by simp; omega
      have k4 : (b.kind == 4) = true := by simp; omega
      have CL := Lib.hid (label_any b.label (w.alloc (.cells #[.int .i64 b.kind, .string b.label, .slice ato b.attrs.length atc, .slice bo b.blocks.length bc] 28)) LS.out)
      rw [l] at CL
      have AO := Lib.hid a
      have hb0 : b.blocks.length = 0 := by rw [x]; rfl
      rw [hb0] at B0 HA V CL NB ⊢
      clear k a x l hb0 HB
      go_enter Tryz.func15, Tryz.ntmps15
      go_wp2_with fail
      generalize w.alloc (.cells #[.int .i64 b.kind, .string b.label, .slice ato b.attrs.length atc, .slice bo 0 bc] 28) = wa at *
      refine CL.out.mono ?_
      rintro e w1 ⟨rfl, hb1⟩
      have N1 := Lib.hid ((hb1.block _ (Array.getElem?_eq_some_iff.1 NB.out).1).trans NB.out)
      have c2 := cell_of_row _ _ 2 _ _ _ N1.out
      simp at c2
      have B1 := Lib.hid (B0.out.trans (hb1.mono B0.out.size))
      have PA := Lib.hid (pattrsT w1 _ b.attrs (HA.out.below hb1) AO.out (V.out.below hb1 V.out.lt))
      clear hb1 CL
      go_wp2_with fail
      refine PA.out.mono ?_
      rintro e w2 ⟨rfl, hb2⟩
      have N2 := Lib.hid ((hb2.block _ (Array.getElem?_eq_some_iff.1 N1.out).1).trans N1.out)
      have c3 := cell_of_row _ _ 3 _ _ _ N2.out
      simp at c3
      have B2 := Lib.hid (B1.out.trans (hb2.mono B1.out.size))
      clear hb2 PA
      go_wp2_with fail
      go_ret
      exact ⟨rfl, B2.out⟩
  · have k5 : (b.kind == 5) = false := by simp; omega
    have k1 : (b.kind == 1) = false := by simp; omega
    have k3 : (b.kind == 3) = false := by simp; omega
    have k4 : (b.kind == 4) = false := by simp; omega
    have k2 : (b.kind == 2) = true := by simpa using k
    have L0 : (b.label.toList == ([] : List UInt8)) = true := str_is l
    have L1 : b.label.toList.isEmpty = true := by simpa using L0
    have AO := Lib.hid a
    have hb0 : b.blocks.length = 0 := by rw [x]; rfl
    rw [hb0] at B0 HA V NB ⊢
    clear k a x l hb0 HB
    go_enter Tryz.func15, Tryz.ntmps15
    go_wp2_with fail
    generalize w.alloc (.cells #[.int .i64 b.kind, .string b.label, .slice ato b.attrs.length atc, .slice bo 0 bc] 28) = wa at *
    have N1 := NB
    have B1 := B0
    have PA := Lib.hid (pattrsT wa _ b.attrs HA.out AO.out V.out)
    refine PA.out.mono ?_
    rintro e w2 ⟨rfl, hb2⟩
    have N2 := Lib.hid ((hb2.block _ (Array.getElem?_eq_some_iff.1 N1.out).1).trans N1.out)
    have c3 := cell_of_row _ _ 3 _ _ _ N2.out
    simp at c3
    have B2 := Lib.hid (B1.out.trans (hb2.mono B1.out.size))
    clear hb2 PA
    go_wp2_with fail
    go_ret
    exact ⟨rfl, B2.out⟩
end
set_option maxHeartbeats 1000000 in
set_option maxRecDepth 20000 in
theorem pmay_loop (d : Nat) (w : World) (bv : Value) (l : List BlkL) (h : BlksRd (d + 1) w bv l) (hl : l.length ≤ 1000) (hv : ErrVar w) (ho : ∀ b ∈ l, BlkOK b ∧ b.label.size ≤ 100000 ∧ b.blocks.length ≤ 1000)
    (ih : ∀ b ∈ l, ∀ W bv, ErrVar W → BlksRd d W bv b.blocks → Calls Tryz.prog 10 #[bv] W (Made (.bool true) W)) : Calls Tryz.prog 10 #[bv] w (Made (.bool true) w) := by
  have H := Lib.hid h
  have HO := Lib.hid ho
  have V := Lib.hid hv
  have IH := Lib.hid ih
  obtain ⟨ao, cap, rfl⟩ := h.len
  clear h hv ho ih
  go_enter Tryz.func10, Tryz.ntmps10
  go_wp2_with fail
  go_loopg [7] l.length (fun m v wr => ∃ j : Nat, v = .int .i64 j ∧ l.length - j ≤ m ∧ j ≤ l.length ∧ Hid (Below w.heap.size w wr))
  case atStart => exact ⟨0, rfl, Nat.le_refl _, Nat.zero_le _, Lib.hid (Below.refl _ _)⟩
  case round =>
    obtain ⟨j, rfl, hm, hj, B⟩ := hrel
    have HM := Lib.hid hm
    clear hm
    by_cases hjl : j < l.length
    · obtain ⟨b, hb⟩ : ∃ b, l[j]? = some b := ⟨_, List.getElem?_eq_getElem hjl⟩
      have hmem := List.mem_of_getElem? hb
      obtain ⟨o1, o2, o3⟩ := HO.out b hmem
      have IB := Lib.hid (IH.out b hmem)
      obtain ⟨ao2, cap2, e2, hat⟩ := H.out.below B.out
      simp at e2
      obtain ⟨rfl, rfl⟩ := e2
      obtain ⟨g, o, ato, atc, bo, bc, rfl, c0, c1, c2, c3, ha, hr⟩ := hat j b hb
      have BA := Lib.hid (below_al (Below.refl wr.heap.size wr) (.cells #[.int .i64 b.kind, .string b.label, .slice ato b.attrs.length atc, .slice bo b.blocks.length bc] 28))
      have NB := Lib.hid (heap_alloc_new wr (.cells #[.int .i64 b.kind, .string b.label, .slice ato b.attrs.length atc, .slice bo b.blocks.length bc] 28))
      have PB := Lib.hid (pblockM _ d b ato atc bo bc (ha.below BA.out) (hr.below BA.out) o1 o3 o2 (V.out.below (B.out.trans (BA.out.mono B.out.size)) V.out.lt))
      have HR := Lib.hid (hr.below BA.out)
      have B1 := Lib.hid (B.out.trans (BA.out.mono B.out.size))
      clear hat hb hmem o1 o2 o3 ha hr BA
      unfold blkV at PB
      go_wp2_with fail
      generalize wr.alloc (.cells #[.int .i64 b.kind, .string b.label, .slice ato b.attrs.length atc, .slice bo b.blocks.length bc] 28) = wa at *
      refine PB.out.mono ?_
      rintro e w1 ⟨rfl, hb1⟩
      have k3 := cell_of_row _ _ 3 _ _ _ ((hb1.block _ (Array.getElem?_eq_some_iff.1 NB.out).1).trans NB.out)
      simp at k3
      have B2 := Lib.hid (B1.out.trans (hb1.mono B1.out.size))
      have PM := Lib.hid (IB.out w1 _ (V.out.below B2.out V.out.lt) (HR.out.below hb1))
      clear hb1
      go_wp2_with fail
      refine PM.out.mono ?_
      rintro e w2 ⟨rfl, hb2⟩
      have B3 := Lib.hid (B2.out.trans (hb2.mono B2.out.size))
      clear hb2
      go_wp2_with fail
      go_roundg (l.length - (j + 1))
      case rel => exact ⟨j + 1, rfl, Nat.le_refl _, hjl, B3⟩
      case measure => have := HM.out; omega
    · go_wp2_with fail
      go_ret
      exact ⟨rfl, B.out⟩
theorem pmay : ∀ (d : Nat) (w : World) (bv : Value) (l : List BlkL), BlksRd d w bv l → BlksOK d l → ErrVar w → Calls Tryz.prog 10 #[bv] w (Made (.bool true) w) := by
  intro d
  induction d with
  | zero =>
    intro w bv l h ho hv
    obtain rfl : l = [] := ho
    exact pmay_loop 0 w bv [] h.more (by simp) hv (fun b hb => by cases hb) (fun b hb => by cases hb)
  | succ d ih =>
    intro w bv l h ho hv
    exact pmay_loop d w bv l h ho.1 hv (fun b hb => ⟨(ho.2 b hb).1, (ho.2 b hb).2.1, (ho.2 b hb).2.2.few⟩) (fun b hb W bv hv h => ih W bv _ h (ho.2 b hb).2.2 hv)
end Go.Proofs.YtlkdicabmikhkaaGreatDoor
