/- Package tree: Right. -/
import Derived.Test.YtjhakingdadfaaaTrQ
namespace Go.Proofs.Ytjhakingdadfaaa
open Go.RowKit
set_option linter.unusedVariables false
set_option linter.unusedSimpArgs false
theorem MapIn.belowM {w w' : World} {B g n : Nat} {d : DataW Value} {V : ByteArray → Value} {L : ByteArray → List Nat} (h : MapIn w B g n d V L) (hb : Below w.heap.size w w') : MapIn w' B g n d V L :=
  ⟨ownsMap_below h.map (hb.block g h.lt), h.at', fun x => own_below (h.row x) hb, h.apart, h.off, h.nil⟩
theorem bool_of (p : Prop) : ∃ b : Bool, b = true ↔ p := by
  by_cases h : p
  · exact ⟨true, by simp [h]⟩
  · exact ⟨false, by simp [h]⟩
section
variable (w : World)
set_option maxHeartbeats 8000000 in
set_option maxRecDepth 20000 in
theorem pright (l : List I12) (lv : Value) (h : IRow w l lv) (hz : ∀ u ∈ l, u.name.size ≤ 1000000 ∧ u.parent.size ≤ 1000000) (bb : Bool) (hb1 : bb = true ↔ rightP l) :
    Calls Try.prog 9 #[lv] w (Made (.bool bb) w) := by
  obtain ⟨ao, cap, rfl⟩ := h.shape
  by_cases hbig : 120 < l.length
  · have R := Lib.hid (show bb = false from Bool.eq_false_iff.2 (fun e => by have := (hb1.1 e).1; omega))
    have hm : l.length ≤ 9223372036854775807 := by
      obtain ⟨_, _, e, h1, h2, -⟩ := h
      unfold maxLen at h2; omega
    clear h hz hb1
    go_enter Try.func9, Try.ntmps9
    go_wp2_with fail
    go_ret
    exact ⟨by rw [R.out]; rfl, Below.refl _ _⟩
  · have hl : l.length ≤ 120 := by omega
    obtain ⟨q1, h1⟩ := bool_of (Srt l)
    obtain ⟨q2, h2⟩ := bool_of (∀ x ∈ l, selfB x = true)
    obtain ⟨q3, h3⟩ := bool_of (hangP l)
    obtain ⟨q4, h4⟩ := bool_of (∀ x ∈ l, sumB l x = true)
    have HB := Lib.hid (show bb = (q1 && (q2 && (q3 && q4))) from by
      rw [Bool.eq_iff_iff, hb1, parts_right hl, ← h1, ← h2, ← h3, ← h4]
      simp only [Bool.and_eq_true])
    have BR := Lib.hid (pbranch w l (.slice ao l.length cap) h (by omega) hz)
    have PRI := Lib.hid (fun W (hW : Below w.heap.size w W) => prise W l (.slice ao l.length cap) (h.below hW) (by omega) q1 h1)
    have PMY := Lib.hid (fun W (hW : Below w.heap.size w W) => pmay W l (.slice ao l.length cap) (h.below hW) (by omega) (fun x hx => (hz x hx).1) q2 h2)
    have PHG := Lib.hid (fun W (hW : Below w.heap.size w W) B g d V (hM : MapIn W B g l.length d V (fun s => kidsT l s l.length)) => phang W l (.slice ao l.length cap) (h.below hW) (by omega) hz B g d V hM q3 h3)
    have PAD := Lib.hid (fun W (hW : Below w.heap.size w W) (hs : q2 = true) B g d V (hM : MapIn W B g l.length d V (fun s => kidsT l s l.length)) => paddT W l (.slice ao l.length cap) (h.below hW) (by omega) hz (h2.1 hs) B g d V hM q4 h4)
    clear h hz hb1 h1 h2 h3 h4 hbig
    cases q1 with
    | false =>
      have R := Lib.hid (show bb = false from HB.out)
      clear HB PMY PHG PAD
      go_enter Try.func9, Try.ntmps9
      go_wp2_with fail
      with_reducible refine BR.out.mono ?_
      rintro e w1 ⟨g, rfl, hb1, d, V, hM⟩
      have C1 := Lib.hid hb1
      have M1 := Lib.hid hM
      have NB1 := Lib.hid (heap_alloc_new w1 (.cells #[.slice ao l.length cap, .map (some g)] 43))
      have D1 := Lib.hid (below_al C1.out (.cells #[.slice ao l.length cap, .map (some g)] 43))
      have N1 := Lib.hid (M1.out.alloc (.cells #[.slice ao l.length cap, .map (some g)] 43))
      clear hb1 hM C1 M1 BR
      go_wp2_with fail
      generalize w1.heap.size = bx at *
      generalize w1.alloc (.cells #[.slice ao l.length cap, .map (some g)] 43) = wb at *
      with_reducible refine (PRI.out _ D1.out).mono ?_
      rintro e w2 ⟨rfl, hb⟩
      have D2 := Lib.hid (below_tr D1.out hb)
      have NB2 := Lib.hid ((hb.block bx (Array.getElem?_eq_some_iff.1 NB1.out).1).trans NB1.out)
      have N2 := Lib.hid (N1.out.belowM hb)
      have b0 : w2.cell? ⟨bx, 0, none⟩ = some (.slice ao l.length cap) := (cell_of_row _ _ 0 _ _ _ NB2.out).trans rfl
      have b1 : w2.cell? ⟨bx, 1, none⟩ = some (.map (some g)) := (cell_of_row _ _ 1 _ _ _ NB2.out).trans rfl
      clear hb NB1 N1
      go_wp2_with fail
      go_ret
      exact ⟨by rw [R.out]; rfl, D2.out⟩
    | true =>
      cases q2 with
      | false =>
        have R := Lib.hid (show bb = false from HB.out)
        clear HB PHG PAD
        go_enter Try.func9, Try.ntmps9
        go_wp2_with fail
        with_reducible refine BR.out.mono ?_
        rintro e w1 ⟨g, rfl, hb1, d, V, hM⟩
        have C1 := Lib.hid hb1
        have M1 := Lib.hid hM
        have NB1 := Lib.hid (heap_alloc_new w1 (.cells #[.slice ao l.length cap, .map (some g)] 43))
        have D1 := Lib.hid (below_al C1.out (.cells #[.slice ao l.length cap, .map (some g)] 43))
        have N1 := Lib.hid (M1.out.alloc (.cells #[.slice ao l.length cap, .map (some g)] 43))
        clear hb1 hM C1 M1 BR
        go_wp2_with fail
        generalize w1.heap.size = bx at *
        generalize w1.alloc (.cells #[.slice ao l.length cap, .map (some g)] 43) = wb at *
        with_reducible refine (PRI.out _ D1.out).mono ?_
        rintro e w2 ⟨rfl, hb⟩
        have D2 := Lib.hid (below_tr D1.out hb)
        have NB2 := Lib.hid ((hb.block bx (Array.getElem?_eq_some_iff.1 NB1.out).1).trans NB1.out)
        have N2 := Lib.hid (N1.out.belowM hb)
        have b0 : w2.cell? ⟨bx, 0, none⟩ = some (.slice ao l.length cap) := (cell_of_row _ _ 0 _ _ _ NB2.out).trans rfl
        have b1 : w2.cell? ⟨bx, 1, none⟩ = some (.map (some g)) := (cell_of_row _ _ 1 _ _ _ NB2.out).trans rfl
        clear hb NB1 N1
        go_wp2_with fail
        clear b0 b1
        with_reducible refine (PMY.out _ D2.out).mono ?_
        rintro e w3 ⟨rfl, hb⟩
        have D3 := Lib.hid (below_tr D2.out hb)
        have NB3 := Lib.hid ((hb.block bx (Array.getElem?_eq_some_iff.1 NB2.out).1).trans NB2.out)
        have N3 := Lib.hid (N2.out.belowM hb)
        have b0 : w3.cell? ⟨bx, 0, none⟩ = some (.slice ao l.length cap) := (cell_of_row _ _ 0 _ _ _ NB3.out).trans rfl
        have b1 : w3.cell? ⟨bx, 1, none⟩ = some (.map (some g)) := (cell_of_row _ _ 1 _ _ _ NB3.out).trans rfl
        clear hb NB2 N2
        go_wp2_with fail
        go_ret
        exact ⟨by rw [R.out]; rfl, D3.out⟩
      | true =>
        cases q3 with
        | false =>
          have R := Lib.hid (show bb = false from HB.out)
          clear HB PAD
          go_enter Try.func9, Try.ntmps9
          go_wp2_with fail
          with_reducible refine BR.out.mono ?_
          rintro e w1 ⟨g, rfl, hb1, d, V, hM⟩
          have C1 := Lib.hid hb1
          have M1 := Lib.hid hM
          have NB1 := Lib.hid (heap_alloc_new w1 (.cells #[.slice ao l.length cap, .map (some g)] 43))
          have D1 := Lib.hid (below_al C1.out (.cells #[.slice ao l.length cap, .map (some g)] 43))
          have N1 := Lib.hid (M1.out.alloc (.cells #[.slice ao l.length cap, .map (some g)] 43))
          clear hb1 hM C1 M1 BR
          go_wp2_with fail
          generalize w1.heap.size = bx at *
          generalize w1.alloc (.cells #[.slice ao l.length cap, .map (some g)] 43) = wb at *
          with_reducible refine (PRI.out _ D1.out).mono ?_
          rintro e w2 ⟨rfl, hb⟩
          have D2 := Lib.hid (below_tr D1.out hb)
          have NB2 := Lib.hid ((hb.block bx (Array.getElem?_eq_some_iff.1 NB1.out).1).trans NB1.out)
          have N2 := Lib.hid (N1.out.belowM hb)
          have b0 : w2.cell? ⟨bx, 0, none⟩ = some (.slice ao l.length cap) := (cell_of_row _ _ 0 _ _ _ NB2.out).trans rfl
          have b1 : w2.cell? ⟨bx, 1, none⟩ = some (.map (some g)) := (cell_of_row _ _ 1 _ _ _ NB2.out).trans rfl
          clear hb NB1 N1
          go_wp2_with fail
          clear b0 b1
          with_reducible refine (PMY.out _ D2.out).mono ?_
          rintro e w3 ⟨rfl, hb⟩
          have D3 := Lib.hid (below_tr D2.out hb)
          have NB3 := Lib.hid ((hb.block bx (Array.getElem?_eq_some_iff.1 NB2.out).1).trans NB2.out)
          have N3 := Lib.hid (N2.out.belowM hb)
          have b0 : w3.cell? ⟨bx, 0, none⟩ = some (.slice ao l.length cap) := (cell_of_row _ _ 0 _ _ _ NB3.out).trans rfl
          have b1 : w3.cell? ⟨bx, 1, none⟩ = some (.map (some g)) := (cell_of_row _ _ 1 _ _ _ NB3.out).trans rfl
          clear hb NB2 N2
          go_wp2_with fail
          clear b0 b1
          with_reducible refine (PHG.out _ D3.out g g d V N3.out).mono ?_
          rintro e w4 ⟨rfl, hb⟩
          have D4 := Lib.hid (below_tr D3.out hb)
          have NB4 := Lib.hid ((hb.block bx (Array.getElem?_eq_some_iff.1 NB3.out).1).trans NB3.out)
          have N4 := Lib.hid (N3.out.belowM hb)
          have b0 : w4.cell? ⟨bx, 0, none⟩ = some (.slice ao l.length cap) := (cell_of_row _ _ 0 _ _ _ NB4.out).trans rfl
          have b1 : w4.cell? ⟨bx, 1, none⟩ = some (.map (some g)) := (cell_of_row _ _ 1 _ _ _ NB4.out).trans rfl
          clear hb NB3 N3
          go_wp2_with fail
          go_ret
          exact ⟨by rw [R.out]; rfl, D4.out⟩
        | true =>
          have R := Lib.hid (show bb = q4 from HB.out)
          clear HB
          go_enter Try.func9, Try.ntmps9
          go_wp2_with fail
          with_reducible refine BR.out.mono ?_
          rintro e w1 ⟨g, rfl, hb1, d, V, hM⟩
          have C1 := Lib.hid hb1
          have M1 := Lib.hid hM
          have NB1 := Lib.hid (heap_alloc_new w1 (.cells #[.slice ao l.length cap, .map (some g)] 43))
          have D1 := Lib.hid (below_al C1.out (.cells #[.slice ao l.length cap, .map (some g)] 43))
          have N1 := Lib.hid (M1.out.alloc (.cells #[.slice ao l.length cap, .map (some g)] 43))
          clear hb1 hM C1 M1 BR
          go_wp2_with fail
          generalize w1.heap.size = bx at *
          generalize w1.alloc (.cells #[.slice ao l.length cap, .map (some g)] 43) = wb at *
          with_reducible refine (PRI.out _ D1.out).mono ?_
          rintro e w2 ⟨rfl, hb⟩
          have D2 := Lib.hid (below_tr D1.out hb)
          have NB2 := Lib.hid ((hb.block bx (Array.getElem?_eq_some_iff.1 NB1.out).1).trans NB1.out)
          have N2 := Lib.hid (N1.out.belowM hb)
          have b0 : w2.cell? ⟨bx, 0, none⟩ = some (.slice ao l.length cap) := (cell_of_row _ _ 0 _ _ _ NB2.out).trans rfl
          have b1 : w2.cell? ⟨bx, 1, none⟩ = some (.map (some g)) := (cell_of_row _ _ 1 _ _ _ NB2.out).trans rfl
          clear hb NB1 N1
          go_wp2_with fail
          clear b0 b1
          with_reducible refine (PMY.out _ D2.out).mono ?_
          rintro e w3 ⟨rfl, hb⟩
          have D3 := Lib.hid (below_tr D2.out hb)
          have NB3 := Lib.hid ((hb.block bx (Array.getElem?_eq_some_iff.1 NB2.out).1).trans NB2.out)
          have N3 := Lib.hid (N2.out.belowM hb)
          have b0 : w3.cell? ⟨bx, 0, none⟩ = some (.slice ao l.length cap) := (cell_of_row _ _ 0 _ _ _ NB3.out).trans rfl
          have b1 : w3.cell? ⟨bx, 1, none⟩ = some (.map (some g)) := (cell_of_row _ _ 1 _ _ _ NB3.out).trans rfl
          clear hb NB2 N2
          go_wp2_with fail
          clear b0 b1
          with_reducible refine (PHG.out _ D3.out g g d V N3.out).mono ?_
          rintro e w4 ⟨rfl, hb⟩
          have D4 := Lib.hid (below_tr D3.out hb)
          have NB4 := Lib.hid ((hb.block bx (Array.getElem?_eq_some_iff.1 NB3.out).1).trans NB3.out)
          have N4 := Lib.hid (N3.out.belowM hb)
          have b0 : w4.cell? ⟨bx, 0, none⟩ = some (.slice ao l.length cap) := (cell_of_row _ _ 0 _ _ _ NB4.out).trans rfl
          have b1 : w4.cell? ⟨bx, 1, none⟩ = some (.map (some g)) := (cell_of_row _ _ 1 _ _ _ NB4.out).trans rfl
          clear hb NB3 N3
          go_wp2_with fail
          clear b0 b1
          with_reducible refine (PAD.out _ D4.out (by trivial) g g d V N4.out).mono ?_
          rintro e w5 ⟨rfl, hb⟩
          have D5 := Lib.hid (below_tr D4.out hb)
          have NB5 := Lib.hid ((hb.block bx (Array.getElem?_eq_some_iff.1 NB4.out).1).trans NB4.out)
          have N5 := Lib.hid (N4.out.belowM hb)
          have b0 : w5.cell? ⟨bx, 0, none⟩ = some (.slice ao l.length cap) := (cell_of_row _ _ 0 _ _ _ NB5.out).trans rfl
          have b1 : w5.cell? ⟨bx, 1, none⟩ = some (.map (some g)) := (cell_of_row _ _ 1 _ _ _ NB5.out).trans rfl
          clear hb NB4 N4
          go_wp2_with fail
          go_ret
          exact ⟨by rw [R.out]; rfl, D5.out⟩
end
end Go.Proofs.Ytjhakingdadfaaa
