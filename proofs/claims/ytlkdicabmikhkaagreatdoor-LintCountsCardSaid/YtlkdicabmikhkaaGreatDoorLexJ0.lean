/- lex.Label. -/
import Derived.Test.YtlkdicabmikhkaaGreatDoorLexI0
namespace Go.Proofs.YtlkdicabmikhkaaGreatDoor
open Go.RowKit
set_option linter.unusedVariables false
set_option linter.unusedSimpArgs false

def labelB (s : ByteArray) : Bool := letterB (pk s 0) && decide (s.size ≤ 24) && decide (runTo inLabelB s 0 = s.size)
section
variable (s : ByteArray) (w : World)
theorem rd_new (s : ByteArray) (w : World) : Rd (w.alloc (.cells #[.string s, .int .i64 0] 74)) w.heap.size s 0 := by
  have h : (w.alloc (.cells #[.string s, .int .i64 0] 74)).heap[w.heap.size]? = some (.cells #[.string s, .int .i64 0] 74 (0, 0)) := heap_alloc_new w _
  exact ⟨cell_of_row _ _ 0 _ _ _ h, cell_of_row _ _ 1 _ _ _ h, by unfold World.frozen?; rw [h]; rfl⟩
set_option maxRecDepth 20000 in
theorem label_any (hs : s.size ≤ maxLen) : Calls Tryz.prog 23 #[.string s] w (Made (.bool (labelB s)) w) := by
  have HL := Lib.hid hs
  unfold maxLen at hs
  have R0 := Lib.hid (rd_new s w)
  have B0 := Lib.hid (show Below w.heap.size w (w.alloc (.cells #[.string s, .int .i64 0] 74)) from (Below.refl _ _).alloc (Nat.le_refl _) _)
  have q1 := pk_lo s 0
  have q2 := pk_hi s 0
  cases c1 : letterB (pk s 0)
  · have e1 : labelB s = false := by simp [labelB, c1]
    have C1 := Lib.hid c1
    rw [e1]
    clear c1 e1
    go_enter Tryz.func23, Tryz.ntmps23
    go_wp2_with fail
    refine (peek_any w.heap.size 0 s _ R0.out HL.out).mono ?_
    rintro e w1 ⟨rfl, n1, rfl⟩
    go_wp2_with fail
    refine (letter_any _ _ q1 q2).mono ?_
    rw [C1.out]
    rintro e w2 ⟨rfl, rfl⟩
    go_wp2_with fail
    go_ret
    exact ⟨rfl, below_drewN B0.out n1⟩
  · have C1 := Lib.hid c1
    by_cases h24 : s.size ≤ 24
    · have e1 : labelB s = decide (runTo inLabelB s 0 = s.size) := by simp [labelB, c1, h24]
      rw [e1]
      have r2 := runTo_le (p := inLabelB) (Nat.zero_le s.size)
      generalize hj : runTo inLabelB s 0 = j at *
      have J := Lib.hid hj
      have e2 : decide (s.size ≤ j) = decide (j = s.size) := by rw [decide_eq_decide]; omega
      have E2 := Lib.hid e2
      clear c1 e1 e2 hj
      go_enter Tryz.func23, Tryz.ntmps23
      go_wp2_with fail
      refine (peek_any w.heap.size 0 s _ R0.out HL.out).mono ?_
      rintro e w1 ⟨rfl, n1, rfl⟩
      go_wp2_with fail
      refine (letter_any _ _ q1 q2).mono ?_
      rw [C1.out]
      rintro e w2 ⟨rfl, rfl⟩
      go_wp2_with fail
      refine (pass_inLabel w.heap.size 0 s _ (R0.out.drewN n1) HL.out).mono ?_
      rw [J.out]
      rintro e w3 ⟨rfl, hr3, ha3⟩
      have R3 := Lib.hid hr3
      have B3 := Lib.hid ((below_drewN B0.out n1).trans (ha3.to_below (Nat.le_refl _) (by have := B0.out.size; exact this)))
      clear hr3 ha3
      go_wp2_with fail
      refine (done_any w.heap.size j s w3 R3.out HL.out).mono ?_
      rintro e w4 ⟨rfl, n4, rfl⟩
      go_wp2_with fail
      go_ret
      exact ⟨by rw [← E2.out]; rfl, below_drewN B3.out n4⟩
    · have e1 : labelB s = false := by simp [labelB, h24]
      rw [e1]
      clear c1 e1
      go_enter Tryz.func23, Tryz.ntmps23
      go_wp2_with fail
      refine (peek_any w.heap.size 0 s _ R0.out HL.out).mono ?_
      rintro e w1 ⟨rfl, n1, rfl⟩
      go_wp2_with fail
      refine (letter_any _ _ q1 q2).mono ?_
      rw [C1.out]
      rintro e w2 ⟨rfl, rfl⟩
      go_wp2_with fail
      go_ret
      exact ⟨rfl, below_drewN B0.out n1⟩

/-! ### the document's -/
end
end Go.Proofs.YtlkdicabmikhkaaGreatDoor
