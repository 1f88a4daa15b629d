/- The law of texts, walked. -/
import Derived.Test.YtedcdibabdamcaaDoorLexT
import Derived.Test.YtedcdibabdamcaaDoorLexU
import Derived.Deep.RegionWith
namespace Go.Proofs.YtedcdibabdamcaaDoor
open Go.RowKit
set_option linter.unusedVariables false
set_option linter.unusedSimpArgs false

theorem lexE_in (s : ByteArray) : 0 ≤ lexE s ∧ lexE s ≤ 5 := by
  unfold lexE; split
  · omega
  · split <;> omega
theorem ToksRd.drew {w : World} {v : Value} {ts : List TokL} (h : ToksRd w v ts) : ToksRd w.drew v ts := h.drewN 1
theorem below_drew {B : Nat} {a w : World} (h : Below B a w) : Below B a w.drew := ⟨h.os, h.tape, h.output, h.size, h.block⟩
theorem Below.heap_alloc' (w : World) (O : Obj) : Below w.heap.size w (w.alloc O) := (Below.refl _ _).alloc (Nat.le_refl _) _
section
variable (s : ByteArray) (w : World)
theorem num_any (x : Int) (h0 : 0 ≤ x) (h1 : x ≤ 100) : Calls Tryd.prog 13 #[.int .i64 x] w fun e w' => e = .returned (.int .i64 x) ∧ w = w' := by
  go_enter Tryd.func13, Tryd.ntmps13
  go_wp2
  go_ret
  exact ⟨rfl, rfl⟩
set_option maxHeartbeats 4000000 in
set_option maxRecDepth 20000 in
theorem law_texts (hs : s.size ≤ maxLen) (hv : ErrVar w) : Calls Tryd.prog 3 #[.string s] w (Made (.bool true) w) := by
  have HL := Lib.hid hs
  have V := Lib.hid hv
  unfold maxLen at hs
  clear hv
  by_cases h1 : 2000 < s.size ∧ s.size ≤ 6000
  · obtain ⟨h2, h6⟩ := h1
    go_enter Tryd.func3, Tryd.ntmps3
    go_wp2_with fail
    refine (awake_any w V.out).mono ?_
    rintro e w1 ⟨rfl, hb1⟩
    have B1 := Lib.hid hb1
    clear hb1
    go_wp2_with fail
    go_ret
    exact ⟨rfl, B1.out⟩
  · have E0 := Lib.hid (lexE_in s)
    have FEW := Lib.hid (lexT_few s)
    have hg : 2000 < s.size → ¬ s.size ≤ 6000 := fun a b => h1 ⟨a, b⟩
    clear h1
    go_enter Tryd.func3, Tryd.ntmps3
    go_wp2_with fail
    all_goals (
      refine (lex_rd s w HL.out V.out).mono ?_
      rintro e w1 ⟨v1, rfl, hb1, ht1⟩
      have B1 := Lib.hid hb1
      have R1 := Lib.hid ht1
      clear hb1 ht1
      go_wp2_with fail
      refine (rlex_any s w1 HL.out).mono ?_
      rintro e w2 ⟨v2, rfl, hb2, ht2⟩
      obtain ⟨ao, cap, rfl⟩ := ht2.len
      have B2 := Lib.hid (B1.out.trans (hb2.mono B1.out.size))
      have R2 := Lib.hid (R1.out.below hb2)
      have S2 := Lib.hid ht2
      have E := Lib.hid (ResBlk.new w2 (.slice ao (lexT s).length cap) (.int .i64 (lexE s)))
      clear hb2 ht2
      have L0 := Lib.hid E0.out.1
      have L1 := Lib.hid (show lexE s ≤ 100 by have := E0.out.2; omega)
      have F1 := Lib.hid FEW.out.1
      have F2 := Lib.hid FEW.out.2
      have B3 := Lib.hid (show Below w.heap.size w (w2.alloc (.cells #[.slice ao (lexT s).length cap, .int .i64 (lexE s)] 28)) from B2.out.alloc B2.out.size _)
      have R3 := Lib.hid (R2.out.below (Below.heap_alloc' w2 (.cells #[.slice ao (lexT s).length cap, .int .i64 (lexE s)] 28)))
      have S3 := Lib.hid (S2.out.below (Below.heap_alloc' w2 (.cells #[.slice ao (lexT s).length cap, .int .i64 (lexE s)] 28)))
      clear E0 FEW R2 S2 B2 R1 B1
      go_wp2_with fail
      generalize w2.alloc (.cells #[.slice ao (lexT s).length cap, .int .i64 (lexE s)] 28) = w3 at *
      obtain ⟨c0, c1⟩ := E.out.cells
      generalize lexT s = T at *
      generalize lexE s = le at *
      generalize w2.heap.size = g at *
      go_region_with (first
        | (go_at_call 12; refine (sameTokens_any _ _ _ T ?_ ?_ F1.out F2.out).mono ?_; exact R3.out.drew; exact S3.out.drew; rintro e w' ⟨rfl, n, rfl⟩)
        | (go_at_call 13; refine (num_any _ _ L0.out L1.out).mono ?_; rintro e w' ⟨rfl, rfl⟩)
        | (go_at_call 9; refine (awake_any _ ?_).mono ?_; exact V.out.below (below_drewN B3.out _) V.out.lt; rintro e w' ⟨rfl, hb⟩; have HB := Lib.hid ((below_drewN B3.out _).trans (hb.mono (below_drewN B3.out _).size)); clear hb))
      all_goals go_wp2
      all_goals go_ret
      all_goals exact ⟨rfl, HB.out⟩)
end
end Go.Proofs.YtedcdibabdamcaaDoor
