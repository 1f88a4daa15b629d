/- The contracts of strings.HasPrefix and strings.Clone, and of the reader's takeAll and since. -/
import Derived.Test.YtlkdicabmikhkaaGreatDoorLexA
import Derived.Test.YtlkdicabmikhkaaGreatDoorShelf
import Derived.StillTailTactics
import Derived.Deep.RegionHeld3
namespace Go.Proofs.YtlkdicabmikhkaaGreatDoor
open Go.RowKit
set_option linter.unusedVariables false

/-- Does q stand in s at k? -/
def isAt (s q : ByteArray) (k : Nat) : Bool := decide (k + q.size ≤ s.size) && (s.extract k (k + q.size)).toList == q.toList

theorem isAt_extract (s q : ByteArray) (k : Nat) (hk : k ≤ s.size) : isAt (s.extract k s.size) q 0 = isAt s q k := by
  unfold isAt
  have h1 : (s.extract k s.size).size = s.size - k := by simp [ByteArray.size_extract]
  by_cases h : k + q.size ≤ s.size
  · have e : (s.extract k s.size).extract 0 (0 + q.size) = s.extract k (k + q.size) := by
      apply ByteArray.ext
      simp only [ByteArray.data_extract, Array.extract_extract]
      congr 1
      simp; omega
    rw [e, h1, decide_eq_true h, decide_eq_true (by omega)]
  · rw [h1, decide_eq_false h, decide_eq_false (by omega)]; simp

section
variable (b k : Nat) (s q : ByteArray) (w : World)
theorem pre_inner (hs : s.size ≤ maxLen) (hq : q.size ≤ maxLen) :
    Calls Tryz.prog 106 #[.string s, .string q] w (Quiet (.bool (isAt s q 0)) w) := by
  unfold maxLen at hs hq
  by_cases h : q.size ≤ s.size
  · have hd : decide (q.size ≤ s.size) = true := by simpa using h
    have e : isAt s q 0 = ((s.extract 0 q.size).toList == q.toList) := by simp [isAt, h]
    rw [e]; clear e
    go_enter Tryz.func106, Tryz.ntmps106
    go_wp2
    go_ret
    exact ⟨rfl, 0, rfl⟩
  · have hd : decide (q.size ≤ s.size) = false := by simpa using h
    have e : isAt s q 0 = false := by simp [isAt, h]
    rw [e]; clear e
    go_enter Tryz.func106, Tryz.ntmps106
    go_wp2
    go_ret
    exact ⟨rfl, 0, rfl⟩
theorem pre_any (hs : s.size ≤ maxLen) (hq : q.size ≤ maxLen) :
    Calls Tryz.prog 98 #[.string s, .string q] w (Quiet (.bool (isAt s q 0)) w) := by
  have HS := Lib.hid hs
  have HQ := Lib.hid hq
  clear hs hq
  go_enter Tryz.func98, Tryz.ntmps98
  go_wp2_with (go_at_call 106; refine (pre_inner s q _ HS.out HQ.out).mono ?_; rintro e w' ⟨rfl, n, rfl⟩)
  go_ret
  exact ⟨rfl, _, rfl⟩
def tkAllTo (s q : ByteArray) (k : Nat) : Nat := if isAt s q k then k + q.size else k
theorem takeAll_any (h : Rd w b s k) (hk : k ≤ s.size) (hs : s.size ≤ maxLen) (hq : q.size ≤ maxLen) :
    Calls Tryz.prog 89 #[.pointer (some ⟨b, 0, none⟩), .string q] w (Moved b s (tkAllTo s q k) (.bool (isAt s q k)) w) := by
  have HS := Lib.hid hs
  have HQ := Lib.hid hq
  have HE := Lib.hid (isAt_extract s q k hk)
  have HB := Lib.hid (show (s.extract k s.size).size ≤ maxLen by simp [ByteArray.size_extract]; omega)
  unfold maxLen at hs hq
  have h' := h
  obtain ⟨h0, h1, h2⟩ := h'
  cases hp : isAt s q k
  · have e : tkAllTo s q k = k := by simp [tkAllTo, hp]
    rw [e]; clear e
    have HP := Lib.hid (HE.out.trans hp)
    clear hp
    go_enter Tryz.func89, Tryz.ntmps89
    go_wp2_with fail
    go_quiet ((go_at_call 98; exact quietAt (HP.out ▸ (pre_any (s.extract k s.size) q _ HB.out HQ.out))))
    go_wp2
    go_ret
    exact ⟨rfl, h.drewN _, Adv.drawn b w _⟩
  · have e : tkAllTo s q k = k + q.size := by simp [tkAllTo, hp]
    rw [e]; clear e
    have hb : k + q.size ≤ s.size := by
      unfold isAt at hp
      simp at hp
      exact hp.1
    have HP := Lib.hid (HE.out.trans hp)
    clear hp
    go_enter Tryz.func89, Tryz.ntmps89
    go_wp2_with fail
    go_quiet ((go_at_call 98; exact quietAt (HP.out ▸ (pre_any (s.extract k s.size) q _ HB.out HQ.out))))
    go_wp2
    go_ret
    exact ⟨rfl, (h.drewN _).set (k + q.size), (Adv.drawn b w _).setCell _⟩
theorem clone_any (hs : s.size ≤ 281474976710656) : Calls Tryz.prog 86 #[.string s] w (Made (.string s) w) := by
  have HS := Lib.hid hs
  clear hs
  go_enter Tryz.func86, Tryz.ntmps86
  go_wp2_with (go_at_call 95; refine (Tryz.stringslite_Clone s w HS.out).mono ?_; rintro e w' ⟨rfl, hb⟩)
  go_ret
  exact ⟨rfl, hb⟩
set_option maxRecDepth 20000 in
theorem since_any (j : Nat) (hj : j ≤ k) (h : Rd w b s k) (hk : k ≤ s.size) (hs : s.size ≤ 281474976710656) :
    Calls Tryz.prog 77 #[.pointer (some ⟨b, 0, none⟩), .int .i64 j] w (Made (.string (s.extract j k)) w) := by
  have h' := h
  obtain ⟨h0, h1, h2⟩ := h'
  have HE := Lib.hid (show (s.extract j k).size ≤ 281474976710656 by simp [ByteArray.size_extract]; omega)
  have hs' : s.size ≤ 9223372036854775807 := by omega
  clear hs
  go_enter Tryz.func77, Tryz.ntmps77
  go_wp2_with fail
  go_still_tail 10, (by kernel_rfl)
  change wpList _ _ _ _ _ w.drew
  go_wp2_with (go_at_call 86; refine (clone_any _ _ HE.out).mono ?_; rintro e w' ⟨rfl, hb⟩)
  go_ret
  exact ⟨rfl, hb.os, hb.tape, hb.output, hb.size, hb.block⟩
end
end Go.Proofs.YtlkdicabmikhkaaGreatDoor
