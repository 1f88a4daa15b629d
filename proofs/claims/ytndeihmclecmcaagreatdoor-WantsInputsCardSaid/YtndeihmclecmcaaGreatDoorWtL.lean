/- Package expand: which attributes a block has; all blocks of a kind. -/
import Derived.Test.YtndeihmclecmcaaGreatDoorWtK
namespace Go.Proofs.YtndeihmclecmcaaGreatDoor
open Go.RowKit
set_option linter.unusedVariables false
set_option linter.unusedSimpArgs false
def onlyB (al : List (ByteArray × List NodeL)) (xs : List ByteArray) : Bool := al.all fun a => inNamesW a.1 xs
/-- All blocks of a kind, one behind the other, up to the first error. -/
def eachR {σ : Type} (step : BlkL → σ → Int × σ) (kind : Int) : List BlkL → σ → Int × σ
  | [], s => (0, s)
  | b :: l, s => if b.kind ≠ kind then eachR step kind l s else if (step b s).1 ≠ 0 then step b s else eachR step kind l (step b s).2
section
variable (w : World)
set_option maxHeartbeats 1000000 in
set_option maxRecDepth 20000 in
theorem ponly (b : BlkL) (ato : Option Addr) (atc : Nat) (bo : Option Addr) (bc : Nat) (ha : AttrsRd w (.slice ato b.attrs.length atc) b.attrs) (hl : b.attrs.length ≤ 1000) (v : Value) (xs : List ByteArray) (hx : TextsRd w v xs) (hxl : xs.length ≤ 1000) :
    Calls Tryz.prog 49 #[blkV b ato atc bo bc, v] w (Made (.bool (onlyB b.attrs xs)) w) := by
  have H := Lib.hid ha
  have HX := Lib.hid hx
  have B0 := Lib.hid (below_al (Below.refl w.heap.size w) (.cells #[.int .i64 b.kind, .string b.label, .slice ato b.attrs.length atc, .slice bo b.blocks.length bc] 30))
  obtain ⟨gx, ox, cx, rfl, -⟩ := hx
  unfold blkV
  clear ha
  go_enter Tryz.func49, Tryz.ntmps49
  go_wp2_with fail
  go_loopg [10] b.attrs.length (fun m v wr => ∃ j : Nat, v = .int .i64 j ∧ b.attrs.length - j ≤ m ∧ j ≤ b.attrs.length ∧ Hid (Below w.heap.size w wr) ∧ Hid (onlyB (b.attrs.take j) xs = true))
  case atStart => exact ⟨0, rfl, Nat.le_refl _, Nat.zero_le _, B0, Lib.hid rfl⟩
  case round =>
    obtain ⟨j, rfl, hm, hj, B, HJ⟩ := hrel
    have HM := Lib.hid hm
    clear hm
    by_cases hjl : j < b.attrs.length
    · obtain ⟨a, ha⟩ : ∃ a, b.attrs[j]? = some a := ⟨_, List.getElem?_eq_getElem hjl⟩
      obtain ⟨ao2, cap2, e2, hat⟩ := H.out.below B.out
      simp at e2
      obtain ⟨rfl, rfl⟩ := e2
      obtain ⟨g, o, no, nc, rfl, c0, c1, hr⟩ := hat j a ha
      have BA := Lib.hid (below_al (Below.refl wr.heap.size wr) (.cells #[.string a.1, .slice no a.2.length nc] 26))
      have B1 := Lib.hid (below_tr B.out BA.out)
      have PC := Lib.hid (pcontainsS _ _ xs (HX.out.below B1.out) hxl a.1)
      have TK := Lib.hid (show onlyB (b.attrs.take (j + 1)) xs = inNamesW a.1 xs by
        have := HJ.out
        unfold onlyB at *
        rw [take_snocW ha, List.all_append, this]
        simp)
      have TF := Lib.hid (show inNamesW a.1 xs = false → onlyB b.attrs xs = false from fun h => by
        unfold onlyB
        rw [List.all_eq_false]
        exact ⟨a, List.mem_of_getElem? ha, by rw [h]; simp⟩)
      clear hat ha hr BA
      go_wp2_with fail
      refine PC.out.mono ?_
      rintro e w1 ⟨rfl, rfl⟩
      cases hin : inNamesW a.1 xs with
      | true =>
        rw [hin] at TK
        clear hin
        go_wp2_with fail
        go_roundg (b.attrs.length - (j + 1))
        case rel => exact ⟨j + 1, rfl, Nat.le_refl _, hjl, B1, TK⟩
        case measure => have := HM.out; omega
      | false =>
        have OF := Lib.hid (TF.out hin)
        clear hin
        go_wp2_with fail
        go_ret
        exact ⟨by rw [OF.out]; rfl, B1.out⟩
    · have hz : j = b.attrs.length := by omega
      subst hz
      have OT := Lib.hid (show onlyB b.attrs xs = true by have := HJ.out; rwa [List.take_length] at this)
      go_wp2_with fail
      go_ret
      exact ⟨by rw [OT.out]; rfl, B.out⟩
theorem eachR_skip {σ : Type} {step : BlkL → σ → Int × σ} {kind : Int} {b : BlkL} {l : List BlkL} {s : σ} (h : b.kind ≠ kind) : eachR step kind (b :: l) s = eachR step kind l s := by rw [eachR, if_pos h]
theorem eachR_err {σ : Type} {step : BlkL → σ → Int × σ} {kind : Int} {b : BlkL} {l : List BlkL} {s : σ} (h : b.kind = kind) (k : (step b s).1 ≠ 0) : eachR step kind (b :: l) s = step b s := by rw [eachR, if_neg (by simpa using h), if_pos k]
theorem eachR_ok {σ : Type} {step : BlkL → σ → Int × σ} {kind : Int} {b : BlkL} {l : List BlkL} {s : σ} (h : b.kind = kind) (k : (step b s).1 = 0) : eachR step kind (b :: l) s = eachR step kind l (step b s).2 := by rw [eachR, if_neg (by simpa using h), if_neg (by simpa using k)]
set_option maxHeartbeats 1000000 in
set_option maxRecDepth 20000 in
theorem peach {σ : Type} (step : BlkL → σ → Int × σ) (I : σ → World → Prop) (kind : Int) (l : List BlkL) (d p gi gn : Nat) (ar : Value) (lb pf : ByteArray) (bo0 : Option Addr) (bc0 : Nat) (f : FuncId) (FE : ∀ a W, (callFunc f a).run Tryz.prog W = .ok (.enter f a) W) (w0 : World) (hrd : BlksRd (d + 1) w0 (.slice bo0 l.length bc0) l)
    (hsc : ∀ s W, I s W → ScAt W p ar lb (.slice bo0 l.length bc0) pf gi gn ∧ Below w0.heap.size w0 W) (hbel : ∀ s W W', I s W → Below W.heap.size W W' → I s W') (hl : l.length ≤ 1000)
    (hst : ∀ b ∈ l, b.kind = kind → ∀ s W ato atc bo bc, I s W → AttrsRd w0 (.slice ato b.attrs.length atc) b.attrs → BlksRd d w0 (.slice bo b.blocks.length bc) b.blocks → Calls Tryz.prog f #[.pointer (some ⟨p, 0, none⟩), blkV b ato atc bo bc] W fun e W' => e = .returned (.int .i64 (step b s).1) ∧ I (step b s).2 W')
    (s0 : σ) (h : I s0 w) :
    Calls Tryz.prog 32 #[.pointer (some ⟨p, 0, none⟩), .int .i64 kind, .func (.func f) #[.pointer (some ⟨p, 0, none⟩)] #[]] w fun e w' => e = .returned (.int .i64 (eachR step kind l s0).1) ∧ I (eachR step kind l s0).2 w' := by
  have SC := Lib.hid hsc
  have RD := Lib.hid hrd
  have BE := Lib.hid hbel
  have ST := Lib.hid hst
  have I0 := Lib.hid h
  have c2 := (hsc s0 w h).1.cells.2.2.1
  clear hsc hbel hst h hrd
  go_enter Tryz.func32, Tryz.ntmps32
  go_wp2_with fail
  go_loopg [15] l.length (fun m v wr => ∃ (j : Nat) (s : σ), v = .int .i64 j ∧ l.length - j ≤ m ∧ j ≤ l.length ∧ Hid (I s wr) ∧ Hid (eachR step kind (l.drop j) s = eachR step kind l s0))
  case atStart => exact ⟨0, s0, rfl, Nat.le_refl _, Nat.zero_le _, I0, Lib.hid rfl⟩
  case round =>
    obtain ⟨j, s, rfl, hm, hj, IS, HJ⟩ := hrel
    have HM := Lib.hid hm
    clear hm
    by_cases hjl : j < l.length
    · obtain ⟨b, hb⟩ : ∃ b, l[j]? = some b := ⟨_, List.getElem?_eq_getElem hjl⟩
      have hmem := List.mem_of_getElem? hb
      have DR := Lib.hid (show l.drop j = b :: l.drop (j + 1) by
        obtain ⟨h1, h2⟩ := List.getElem?_eq_some_iff.1 hb
        rw [← h2]
        exact List.drop_eq_getElem_cons h1)
      obtain ⟨ao2, cap2, e2, hat⟩ := RD.out
      simp at e2
      obtain ⟨rfl, rfl⟩ := e2
      obtain ⟨g, o, ato, atc, bo, bc, rfl, c0, c1, c2, c3, ha, hr⟩ := hat j b hb
      have BW := Lib.hid (SC.out s wr IS.out).2
      replace c0 := hold BW.out c0
      replace c1 := hold BW.out c1
      replace c2 := hold BW.out c2
      replace c3 := hold BW.out c3
      have BA := Lib.hid (below_al (Below.refl wr.heap.size wr) (.cells #[.int .i64 b.kind, .string b.label, .slice ato b.attrs.length atc, .slice bo b.blocks.length bc] 30))
      have IA := Lib.hid (BE.out s wr _ IS.out BA.out)
      by_cases hk : b.kind = kind
      · have gk : (b.kind != kind) = false := by simpa using hk
        have PS := Lib.hid (ST.out b hmem hk s _ ato atc bo bc IA.out ha hr)
        have HK := Lib.hid hk
        unfold blkV at PS
        clear hat hb hmem hk ha hr
        go_wp2_with fail
        refine PS.out.mono ?_
        rintro e w1 ⟨rfl, hi1⟩
        have I1 := Lib.hid hi1
        clear hi1 PS
        by_cases hse : (step b s).1 = 0
        · have ge : ((step b s).1 != 0) = false := by simpa using hse
          have NX := Lib.hid (show eachR step kind (l.drop (j + 1)) (step b s).2 = eachR step kind l s0 by rw [← HJ.out, DR.out, eachR_ok HK.out hse])
          clear hse
          go_wp2_with fail
          go_roundg (l.length - (j + 1))
          case rel => exact ⟨j + 1, _, rfl, Nat.le_refl _, hjl, I1, NX⟩
          case measure => have := HM.out; omega
        · have ge : ((step b s).1 != 0) = true := by simpa using hse
          have NX := Lib.hid (show eachR step kind l s0 = step b s by rw [← HJ.out, DR.out, eachR_err HK.out hse])
          clear hse
          go_wp2_with fail
          go_ret
          rw [NX.out]
          exact ⟨rfl, I1.out⟩
      · have gk : (b.kind != kind) = true := by simpa using hk
        have NX := Lib.hid (show eachR step kind (l.drop (j + 1)) s = eachR step kind l s0 by rw [← HJ.out, DR.out, eachR_skip hk])
        clear hat hb hmem hk ha hr
        go_wp2_with fail
        go_roundg (l.length - (j + 1))
        case rel => exact ⟨j + 1, s, rfl, Nat.le_refl _, hjl, IA, NX⟩
        case measure => have := HM.out; omega
    · have hz : j = l.length := by omega
      subst hz
      have NX := Lib.hid (show eachR step kind l s0 = (0, s) by rw [← HJ.out, List.drop_length]; rfl)
      go_wp2_with fail
      go_ret
      rw [NX.out]
      exact ⟨rfl, IS.out⟩
end
end Go.Proofs.YtndeihmclecmcaaGreatDoor
