/- Package parse: two names with a dot (strings.Cut). -/
import Derived.Test.YtlkdicabmikhkaaGreatDoorNodS
import Derived.Lib.Bytealg
namespace Go.Proofs.YtlkdicabmikhkaaGreatDoor
open Go.RowKit
set_option linter.unusedVariables false
set_option linter.unusedSimpArgs false
/-- How many bytes stand ahead of the first dot. -/
def dotN (s : ByteArray) : Nat := (s.data.toList.takeWhile fun c => c != 46).length
def cutA (s : ByteArray) : ByteArray := s.extract 0 (dotN s)
def cutZ (s : ByteArray) : ByteArray := s.extract (dotN s + 1) s.size
theorem dotN_le (s : ByteArray) : dotN s ≤ s.size := by
  have := (List.takeWhile_sublist (fun c : UInt8 => c != 46) (l := s.data.toList)).length_le
  exact this
theorem indexByte_dot : ∀ l : List UInt8, Lib.indexByte l 46 = if (l.takeWhile fun c => c != 46).length < l.length then (((l.takeWhile fun c => c != 46).length : Nat) : Int) else -1 := by
  intro l
  induction l with
  | nil => rfl
  | cons b l ih =>
    unfold Lib.indexByte
    by_cases hb : b = 46
    · subst hb; simp
    · have h1 : (b == 46) = false := by simpa using hb
      have h2 : (b != 46) = true := by simpa using hb
      rw [h1, ih, List.takeWhile_cons, h2]
      simp only [Bool.false_eq_true, if_false, if_true, List.length_cons]
      generalize (l.takeWhile fun c => c != 46).length = m
      by_cases hl : m < l.length
      · have : (((m : Nat) : Int) == -1) = false := by rw [beq_eq_false_iff_ne]; omega
        simp [hl, this]
      · simp [hl]
def dotI (s : ByteArray) : Int := if dotN s < s.size then (dotN s : Int) else -1
section
variable (w : World)
theorem sidx_dot (s : ByteArray) : Calls Tryz.prog 100 #[.string s, .string ⟨#[46]⟩] w fun e w' => e = .returned (.int .i64 (dotI s)) ∧ w = w' := by
  refine (Tryz.stringslite_Index_one s 46 w).mono ?_
  rintro e w' ⟨rfl, rfl⟩
  exact ⟨by rw [indexByte_dot]; rfl, rfl⟩
set_option maxRecDepth 20000 in
theorem scut (s : ByteArray) (hs : s.size ≤ maxLen) : Calls Tryz.prog 94 #[.string s, .string ⟨#[46]⟩] w fun e w' => ∃ n, e = .returned (.tuple #[.string (cutA s), .string (cutZ s), .bool (decide (dotN s < s.size))]) ∧ w' = w.drewN n := by
  have HL := Lib.hid hs
  have D := dotN_le s
  by_cases h : dotN s < s.size
  · have E := Lib.hid (show dotI s = (dotN s : Int) from if_pos h)
    have TD := Lib.hid (show decide (dotN s < s.size) = true from decide_eq_true h)
    have XA := Lib.hid (show s.extract 0 (dotN s) = cutA s from rfl)
    have XZ := Lib.hid (show s.extract (dotN s + 1) s.size = cutZ s from rfl)
    rw [TD.out]
    generalize hn : dotN s = n at *
    have hs' : s.size ≤ 9223372036854775807 := by have := HL.out; unfold maxLen at this; omega
    have h1 : n + 1 ≤ s.size := h
    have hw : IntKind.i64.wrap ((n : Int) + 1) = ((n + 1 : Nat) : Int) := by rw [IntKind.wrap_i64]; omega
    clear hs hn
    go_enter Tryz.func94, Tryz.ntmps94
    go_wp2_with (go_at_call 100; refine (sidx_dot _ s).mono ?_; rw [E.out]; rintro e w' ⟨rfl, rfl⟩)
    go_quiet (fail)
    go_wp2_with fail
    exact bodyPost_ret (v := .tuple #[.string (s.extract 0 n), .string (s.extract (n + 1) s.size), .bool true]) (by simp [results, Tryz.results94, go_sem]) rfl ⟨_, by rw [XA.out, XZ.out], rfl⟩
  · have E := Lib.hid (show dotI s = -1 from if_neg h)
    have TD := Lib.hid (show decide (dotN s < s.size) = false from decide_eq_false h)
    have hz : dotN s = s.size := by omega
    have XA := Lib.hid (show cutA s = s by unfold cutA; rw [hz]; exact ByteArray.extract_zero_size)
    have XZ := Lib.hid (show cutZ s = ⟨#[]⟩ by unfold cutZ; rw [hz]; apply ByteArray.ext; simp)
    rw [TD.out, XA.out, XZ.out]
    clear h hz D
    go_enter Tryz.func94, Tryz.ntmps94
    go_wp2_with (go_at_call 100; refine (sidx_dot _ s).mono ?_; rw [E.out]; rintro e w' ⟨rfl, rfl⟩)
    exact bodyPost_ret (v := .tuple #[.string s, .string ⟨#[]⟩, .bool false]) (by simp [results, Tryz.results94, go_sem]) rfl ⟨0, rfl, rfl⟩
set_option maxRecDepth 20000 in
theorem pcut (s : ByteArray) (hs : s.size ≤ maxLen) : Calls Tryz.prog 82 #[.string s, .string ⟨#[46]⟩] w fun e w' => ∃ n, e = .returned (.tuple #[.string (cutA s), .string (cutZ s), .bool (decide (dotN s < s.size))]) ∧ w' = w.drewN n := by
  have HL := Lib.hid hs
  clear hs
  go_enter Tryz.func82, Tryz.ntmps82
  go_wp2_with fail
  refine (scut _ s HL.out).mono ?_
  rintro e w' ⟨n, rfl, rfl⟩
  go_wp2_with fail
  exact bodyPost_ret (v := .tuple #[.string (cutA s), .string (cutZ s), .bool (decide (dotN s < s.size))]) (by simp [results, Tryz.results82, go_sem]) rfl ⟨n, rfl, rfl⟩
/-- Two names with a dot. -/
def refP (s : ByteArray) : Bool := nameP (cutA s) && nameP (cutZ s)
theorem cut_size (s : ByteArray) : (cutA s).size ≤ s.size ∧ (cutZ s).size ≤ s.size := by
  unfold cutA cutZ
  simp only [ByteArray.size_extract]
  omega
set_option maxRecDepth 20000 in
theorem preference (s : ByteArray) (hs : s.size ≤ maxLen) (hv : ErrVar w) : Calls Tryz.prog 83 #[.string s] w (Made (.bool (refP s)) w) := by
  have HL := Lib.hid hs
  have V := Lib.hid hv
  have SZ := Lib.hid (cut_size s)
  have E := Lib.hid (show refP s = (nameP (cutA s) && nameP (cutZ s)) from rfl)
  rw [E.out]
  clear hs hv E
  go_enter Tryz.func83, Tryz.ntmps83
  go_wp2_with fail
  refine (pcut _ s HL.out).mono ?_
  rintro e w' ⟨n, rfl, rfl⟩
  go_wp2_with fail
  refine (pnamep _ (cutA s) (Nat.le_trans SZ.out.1 HL.out) (V.out.below (below_drawn w n) V.out.lt)).mono ?_
  rintro e w1 ⟨rfl, hb1⟩
  have B1 := Lib.hid ((below_drawn w n).trans hb1)
  clear hb1
  cases hn : nameP (cutA s)
  · go_wp2_with fail
    go_ret
    exact ⟨by first | rfl | (rw [hn]; rfl), B1.out⟩
  · go_wp2_with fail
    refine (pnamep _ (cutZ s) (Nat.le_trans SZ.out.2 HL.out) (V.out.below B1.out V.out.lt)).mono ?_
    rintro e w2 ⟨rfl, hb2⟩
    go_wp2_with fail
    go_ret
    exact ⟨by first | rfl | (rw [hn]; rfl), B1.out.trans (hb2.mono B1.out.size)⟩
end
end Go.Proofs.YtlkdicabmikhkaaGreatDoor
