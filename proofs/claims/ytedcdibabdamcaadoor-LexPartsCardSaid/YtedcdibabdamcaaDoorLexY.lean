/- The law of numbers, walked. -/
import Derived.Test.YtedcdibabdamcaaDoorLexV
import Derived.Test.YtedcdibabdamcaaDoorLexX
namespace Go.Proofs.YtedcdibabdamcaaDoor
open Go.RowKit
set_option linter.unusedVariables false
set_option linter.unusedSimpArgs false

theorem LexRdPost.eq_def' (s : ByteArray) (w : World) : LexRdPost s w = fun e w' => ∃ v, e = .returned (.tuple #[v, .int .i64 (lexE s)]) ∧ Below w.heap.size w w' ∧ ToksRd w' v (lexT s) := rfl
theorem num_cells {w : World} {v : Value} {t t2 : TokL} (h : ToksRd w v [t, t2]) : ∃ g o cap, v = .slice (some ⟨g, o, none⟩) 2 cap ∧ w.cell? ⟨g, o + 2, none⟩ = some (.int .i64 t.num) := by
  obtain ⟨g, o, cap, rfl, hc⟩ := h.cell (by simp)
  obtain ⟨pv, hi⟩ := hc 0 (by simp)
  exact ⟨g, o, cap, rfl, by have := hi.num; simpa using this⟩
section
variable (w : World)
set_option maxHeartbeats 4000000 in
set_option maxRecDepth 20000 in
theorem law_numbers (n : Nat) (hn : n < 18446744073709551616) (hv : ErrVar w) : Calls Tryd.prog 8 #[.int .u64 n] w (Made (.bool true) w) := by
  have V := Lib.hid hv
  have hn2 : n / 2 ≤ 9223372036854775807 := by omega
  have hds := decB_size (n / 2) hn2
  have hl1 := lex_dec (n / 2) hn2 (by omega)
  have hnz : (noughtB (n / 2)).size ≤ 20 := by simp only [noughtB, ByteArray.size_append]; have : (⟨#[48]⟩ : ByteArray).size = 1 := rfl; omega
  have hl2 := lex_nought (n / 2) (by omega)
  have D1 := Lib.hid (show ∀ W, Calls Tryd.prog 17 #[.int .i64 ((n : Int) / 2)] W (Made (.string (decB (n / 2))) W) from fun W => rdigits_any W (n / 2) _ (by omega) hn2)
  have S1 := Lib.hid (show (decB (n / 2)).size ≤ maxLen by unfold maxLen; omega)
  have S2 := Lib.hid (show (noughtB (n / 2)).size ≤ maxLen by unfold maxLen; omega)
  have E2 := Lib.hid hl2
  have E1 := Lib.hid hl1.1
  have T1 := Lib.hid hl1.2
  have NB := Lib.hid (show (⟨#[48]⟩ : ByteArray) ++ decB (n / 2) = noughtB (n / 2) from rfl)
  have hk : (((n / 2 : Nat) : Int)) = (n : Int) / 2 := by omega
  rw [hk] at T1
  generalize decB (n / 2) = d at *
  generalize noughtB (n / 2) = nb at *
  clear hv hl1 hl2 hn2 hk hnz
  have hs1 : (⟨#[48]⟩ : ByteArray).size = 1 := rfl
  go_enter Tryd.func8, Tryd.ntmps8
  go_wp2_with fail
  refine (D1.out w).mono ?_
  rintro e w1 ⟨rfl, hb1⟩
  have B1 := Lib.hid hb1
  have V1 := Lib.hid (V.out.below hb1 V.out.lt)
  clear hb1
  go_wp2_with fail
  refine (lex_rd d w1 S1.out V1.out).mono ?_
  rw [LexRdPost.eq_def', E1.out, T1.out]
  rintro e w2 ⟨v, rfl, hb2, ht2⟩
  have B2 := Lib.hid (B1.out.trans (hb2.mono B1.out.size))
  have R2 := Lib.hid ht2
  clear hb2 ht2
  go_wp2_with fail
  refine (D1.out w2).mono ?_
  rintro e w3 ⟨rfl, hb3⟩
  have B3 := Lib.hid (B2.out.trans (hb3.mono B2.out.size))
  have R3 := Lib.hid (R2.out.below hb3)
  have V3 := Lib.hid (V.out.below B3.out V.out.lt)
  clear hb3
  go_wp2_with fail
  rw [NB.out]
  refine (lex_rd nb w3 S2.out V3.out).mono ?_
  rw [LexRdPost.eq_def', E2.out]
  rintro e w4 ⟨v4, rfl, hb4, -⟩
  have B4 := Lib.hid (B3.out.trans (hb4.mono B3.out.size))
  have R4 := Lib.hid (R3.out.below hb4)
  have V4 := Lib.hid (V.out.below B4.out V.out.lt)
  clear hb4
  go_wp2_with fail
  refine (lex_rd bigText w4 (by decide) V4.out).mono ?_
  rw [LexRdPost.eq_def', bigE]
  rintro e w5 ⟨v5, rfl, hb5, -⟩
  have B5 := Lib.hid (B4.out.trans (hb5.mono B4.out.size))
  have V5 := Lib.hid (V.out.below B5.out V.out.lt)
  obtain ⟨g, o, cap, rfl, c2⟩ := num_cells (R4.out.below hb5)
  clear hb5
  go_wp2_with fail
  refine (num_any _ 0 (by omega) (by omega)).mono ?_
  rintro e w6 ⟨rfl, rfl⟩
  go_wp2_with fail
  refine (num_any _ 5 (by omega) (by omega)).mono ?_
  rintro e w6 ⟨rfl, rfl⟩
  go_wp2_with fail
  refine (num_any _ 5 (by omega) (by omega)).mono ?_
  rintro e w6 ⟨rfl, rfl⟩
  go_wp2_with fail
  refine (awake_any _ V5.out).mono ?_
  rintro e w6 ⟨rfl, hb6⟩
  have B6 := Lib.hid (B5.out.trans (hb6.mono B5.out.size))
  clear hb6
  go_wp2_with fail
  go_ret
  exact ⟨rfl, B6.out⟩
end
end Go.Proofs.YtedcdibabdamcaaDoor
