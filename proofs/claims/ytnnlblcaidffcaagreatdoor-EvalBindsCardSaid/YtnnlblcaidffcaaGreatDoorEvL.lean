/- The document's Tree of one reference. -/
import Derived.Test.YtnnlblcaidffcaaGreatDoorEvK
namespace Go.Proofs.YtnnlblcaidffcaaGreatDoor
open Go.RowKit
set_option linter.unusedVariables false
set_option linter.unusedSimpArgs false
def first (s : ByteArray) : ByteArray := s.extract 0 (nameTo s 0)
section
variable (w : World)
set_option maxHeartbeats 1000000 in
set_option maxRecDepth 20000 in
theorem rleaf_ref (s : ByteArray) (hs : s.size ≤ maxLen) (hd : rdotB s = true) :
    Calls Tryz.prog 31 #[.agg #[.int .i64 4, .int .i64 0, .string s, .slice none 0 0, .slice none 0 0]] w (Made (.bool (!truthP (first s))) w) := by
  have HL := Lib.hid hs
  have HD := Lib.hid hd
  have N1 := nameTo_le (s := s) (Nat.zero_le s.size)
  have FF := Lib.hid (show s.extract 0 (nameTo s 0) = first s from rfl)
  have E1 := lit_eq (a := first s) (l := [116, 114, 117, 101])
  have E2 := lit_eq (a := first s) (l := [102, 97, 108, 115, 101])
  have E := Lib.hid (show (!truthP (first s)) = (!((first s).toList == ([116, 114, 117, 101] : List UInt8)) && !((first s).toList == ([102, 97, 108, 115, 101] : List UInt8))) by rw [E1, E2]; unfold truthP; simp)
  have B := Lib.hid (show Below w.heap.size w (w.alloc (.cells #[.int .i64 4, .int .i64 0, .string s, .slice none 0 0, .slice none 0 0] 27)) from below_al (Below.refl _ _) _)
  have NB := Lib.hid (heap_alloc_new w (.cells #[.int .i64 4, .int .i64 0, .string s, .slice none 0 0, .slice none 0 0] 27))
  have hs2 : s.size ≤ 9223372036854775807 := hs
  clear hs hd E1 E2
  generalize hk : nameTo s 0 = k at *
  have KK := Lib.hid hk
  clear hk
  go_enter Tryz.func31, Tryz.ntmps31
  go_upto_region 11 with fail
  have c2 : (w.alloc (.cells #[.int .i64 4, .int .i64 0, .string s, .slice none 0 0, .slice none 0 0] 27)).cell? ⟨w.heap.size, 2, none⟩ = some (.string s) := cell_of_row _ _ 2 _ _ _ NB.out
  generalize w.alloc (.cells #[.int .i64 4, .int .i64 0, .string s, .slice none 0 0, .slice none 0 0] 27) = w1 at *
  have NE : ∀ q, Calls Tryz.prog 26 #[.string s, .int .i64 0] (w1.drewN q) (Quiet (.int .i64 k) (w1.drewN q)) := fun q => by
    have := nameEnd_any s (w1.drewN q) 0 0 rfl HL.out (by unfold maxLen; omega)
    rw [KK.out] at this
    exact this
  have HE := Lib.hid NE
  clear NE
  go_quiet ((go_at_call 26; exact quietAt (HE.out _)))
  have c2' : (w1.drewN nq).cell? ⟨w.heap.size, 2, none⟩ = some (.string s) := c2
  have BQ := Lib.hid (below_drewN B.out nq)
  rw [FF.out]
  generalize w1.drewN nq = w2 at *
  clear c2
  go_wp2_with fail
  refine (rdot_any s w2 HL.out).mono ?_
  rw [HD.out]
  rintro e w3 ⟨rfl, n3, rfl⟩
  go_wp2_with fail
  all_goals go_ret
  all_goals refine ⟨?_, below_drewN BQ.out _⟩
  · rename_i h
    rw [E.out, h]
    rfl
  · rw [E.out]
    rfl
set_option maxRecDepth 20000 in
theorem rarms4 : Calls Tryz.prog 30 #[.int .i64 4] w fun e w' => e = .returned (.int .i64 0) ∧ w = w' := by
  go_enter Tryz.func30, Tryz.ntmps30
  go_wp2_with fail
  go_ret
  exact ⟨rfl, rfl⟩
/-- A list of one reference lies at block g. -/
def RefB (w : World) (g : Nat) (s : ByteArray) : Prop := w.heap[g]? = some (.cells #[.int .i64 4, .int .i64 0, .string s, .slice none 0 0, .slice none 0 0] 27 (0, 0))
theorem RefB.cells {w : World} {g : Nat} {s : ByteArray} (h : RefB w g s) : w.cell? ⟨g, 0, none⟩ = some (.int .i64 4) ∧ w.cell? ⟨g, 1, none⟩ = some (.int .i64 0) ∧ w.cell? ⟨g, 2, none⟩ = some (.string s) ∧ w.cell? ⟨g, 3, none⟩ = some (.slice none 0 0) ∧ w.cell? ⟨g, 4, none⟩ = some (.slice none 0 0) :=
  ⟨cell_of_row w g 0 _ _ _ h, cell_of_row w g 1 _ _ _ h, cell_of_row w g 2 _ _ _ h, cell_of_row w g 3 _ _ _ h, cell_of_row w g 4 _ _ _ h⟩
theorem RefB.below {w w' : World} {g : Nat} {s : ByteArray} (h : RefB w g s) (hb : Below w.heap.size w w') : RefB w' g s := (hb.block g (Array.getElem?_eq_some_iff.1 h).1).trans h
set_option maxHeartbeats 2000000 in
set_option maxRecDepth 20000 in
theorem rtree_ref (g : Nat) (s : ByteArray) (h : RefB w g s) (hs : s.size ≤ maxLen) (hd : rdotB s = true) :
    Calls Tryz.prog 17 #[.slice (some ⟨g, 0, none⟩) 1 1] w (Made (.bool (!truthP (first s))) w) := by
  have HL := Lib.hid hs
  have HD := Lib.hid hd
  have H := Lib.hid h
  clear h hs hd
  obtain ⟨i0, hi0, hz0, hz1, hz2⟩ := info_parts info_int
  go_enter Tryz.func17, Tryz.ntmps17
  go_wp2_with fail
  go_loopg [3, 4] 1 (fun m sv iv wr => ∃ j : Nat, iv = .int .i64 j ∧ 1 - j ≤ m ∧ j ≤ 1 ∧ Below w.heap.size w wr ∧ (∃ ao cap, sv = .slice ao j cap) ∧ (j = 0 → sv = .slice none 0 0) ∧ (j = 1 → (!truthP (first s)) = true))
  case atStart => exact ⟨0, rfl, Nat.le_refl _, Nat.zero_le _, Below.refl _ _, ⟨none, 0, rfl⟩, fun _ => rfl, fun h => (by cases h)⟩
  case round =>
    obtain ⟨j, rfl, hm, hj, hb, ⟨ao, cap, rfl⟩, h0, h1⟩ := hrel
    have B := Lib.hid hb
    by_cases hj0 : j = 0
    · subst hj0
      have e0 := h0 rfl
      simp at e0
      obtain ⟨rfl, rfl⟩ := e0
      obtain ⟨c0, c1, c2, c3, c4⟩ := (H.out.below hb).cells
      have NB := Lib.hid (heap_alloc_new wr (.cells #[.int .i64 4, .int .i64 0, .string s, .slice none 0 0, .slice none 0 0] 27))
      have BA := Lib.hid (below_al hb (.cells #[.int .i64 4, .int .i64 0, .string s, .slice none 0 0, .slice none 0 0] 27))
      have HM := Lib.hid hm
      clear hb h0 h1 hm hj
      go_wp2_with fail
      refine (rarms4 _).mono ?_
      rintro e w1 ⟨rfl, rfl⟩
      go_wp2_with fail
      refine (rleaf_ref _ s HL.out HD.out).mono ?_
      rintro e w1 ⟨rfl, hb1⟩
      have B1 := Lib.hid (BA.out.trans (hb1.mono BA.out.size))
      obtain ⟨n0, n1, n2, n3, n4⟩ := RefB.cells (show RefB w1 wr.heap.size s from RefB.below NB.out hb1)
      clear hb1
      cases ht : (!truthP (first s))
      · have HT := Lib.hid ht
        clear ht
        go_wp2_with fail
        go_ret
        exact ⟨by rw [HT.out]; rfl, B1.out⟩
      · have HT := Lib.hid ht
        clear ht
        go_wp2_with fail
        go_loopg [7] 0 (fun m v wx => v = .int .i64 0 ∧ w1 = wx)
        case atStart => exact ⟨rfl, rfl⟩
        case round =>
          obtain ⟨rfl, rfl⟩ := hrel
          have OWN := World.ownsRow_nil (w1.alloc (.cells #[.int .i64 0] 3)) w.heap.size 3 1
          have hz : w.heap.size ≤ (w1.alloc (.cells #[.int .i64 0] 3)).heap.size := by have := B1.out.size; simp; omega
          go_wp2_with (at_builtin; refine wpList_append_own _ rfl _ _ 25 rfl w.heap.size 3 i0 _ 1 8 Tryz.underlying25 hi0 hz0 hz1 hz2 rfl (by decide) (.slice none 0 0) 0 [] rfl OWN ⟨w1.heap.size, 0, none⟩ 1 1 [.int .i64 0] rfl rfl (news_new w1 #[.int .i64 0] 3) (by simp [Value.oneCell']) (by unfold maxLen; omega) (by omega) hz ?_)
          intro v' w6 hown hgrow _
          obtain ⟨vo, vc, rfl⟩ := own_len hown
          have B6 := Lib.hid (Below.grown (below_al B1.out _) hgrow hz (fun k hk => by cases hk))
          clear hown hgrow
          go_wp2_with fail
          go_roundg 0
          case rel => exact ⟨1, rfl, Nat.le_refl _, Nat.le_refl _, B6.out, ⟨vo, vc, rfl⟩, fun h => (by cases h), fun _ => HT.out⟩
          case measure => have := HM.out; omega
    · have hj1 : j = 1 := by omega
      subst hj1
      have h2 := h1 rfl
      rw [h2]
      go_wp2_with fail
      go_ret
      exact ⟨rfl, B.out⟩
end
end Go.Proofs.YtnnlblcaidffcaaGreatDoor
