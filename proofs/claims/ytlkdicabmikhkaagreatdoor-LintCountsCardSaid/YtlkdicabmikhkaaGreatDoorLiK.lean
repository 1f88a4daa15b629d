/- Package lint: Text; the law's example. -/
import Derived.Test.YtlkdicabmikhkaaGreatDoorLiJ
namespace Go.Proofs.YtlkdicabmikhkaaGreatDoor
open Go.RowKit Go.Sort
set_option linter.unusedVariables false
set_option linter.unusedSimpArgs false
def sNotUsed : ByteArray := ⟨#[32, 105, 115, 32, 110, 111, 116, 32, 117, 115, 101, 100]⟩
def whatB (k : Int) : ByteArray := if k = 1 then ⟨#[118, 97, 114, 105, 97, 98, 108, 101]⟩ else if k = 2 then ⟨#[108, 111, 99, 97, 108]⟩ else ⟨#[100, 101, 102, 105, 110, 101]⟩
theorem scopeOK_nil : ScopeOK [] := ⟨by simp, fun b hb => (by cases hb), fun b hb => (by cases hb), fun b hb => (by cases hb), by simp [refsL]⟩
section
variable (w : World)
set_option maxHeartbeats 1000000 in
set_option maxRecDepth 20000 in
theorem punused (a x : ByteArray) (ha : a.size ≤ 1000) (hx : x.size ≤ 100000) : Calls Tryz.prog 14 #[.string a, .string x] w (Made (.string (a ++ ⟨#[32]⟩ ++ x ++ sNotUsed)) w) := by
  have h1 : (a ++ ⟨#[32]⟩ : ByteArray).size ≤ maxLen := by rw [ByteArray.size_append]; unfold maxLen; show a.size + 1 ≤ _; omega
  have h2 : (a ++ ⟨#[32]⟩ ++ x : ByteArray).size ≤ maxLen := by rw [ByteArray.size_append, ByteArray.size_append]; unfold maxLen; show a.size + 1 + x.size ≤ _; omega
  have h3 : (a ++ ⟨#[32]⟩ ++ x ++ ⟨#[32, 105, 115, 32, 110, 111, 116, 32, 117, 115, 101, 100]⟩ : ByteArray).size ≤ maxLen := by
    rw [ByteArray.size_append, ByteArray.size_append, ByteArray.size_append]; unfold maxLen; show a.size + 1 + x.size + 12 ≤ _; omega
  go_enter Tryz.func14, Tryz.ntmps14
  go_wp2_with fail
  go_ret
  exact ⟨rfl, Below.refl _ _⟩
set_option maxRecDepth 20000 in
theorem ptext1 (x : ByteArray) (hx : x.size ≤ 100000) : Calls Tryz.prog 9 #[.agg #[.int .i64 1, .string x]] w (Made (.string (⟨#[118, 97, 114, 105, 97, 98, 108, 101]⟩ ++ ⟨#[32]⟩ ++ x ++ sNotUsed)) w) := by
  have BA := Lib.hid (below_al (Below.refl w.heap.size w) (.cells #[.int .i64 1, .string x] 40))
  have PU := Lib.hid (fun W => punused W ⟨#[118, 97, 114, 105, 97, 98, 108, 101]⟩ x (by show (8 : Nat) ≤ _; omega) hx)
  go_enter Tryz.func9, Tryz.ntmps9
  go_wp2_with fail
  refine (PU.out _).mono ?_
  rintro e w1 ⟨rfl, hb1⟩
  have B1 := Lib.hid (BA.out.trans (hb1.mono BA.out.size))
  clear hb1
  go_wp2_with fail
  go_ret
  exact ⟨rfl, B1.out⟩
theorem used_nil (x : ByteArray) : usedB [] x = false := by simp [usedB, hasBS]
def varB : BlkL := .mk 1 ⟨#[118]⟩ [] []
theorem warns_var : warnsL 1 [varB] = [(1, ⟨#[118]⟩)] := by
  have r : refsL [varB] = [] := by simp [refsL, refsB, varB, BlkL.kind]
  have u : usesD 2 [varB] = [] := by simp [usesD, usesB, varB, BlkL.kind, BlkL.blocks]
  unfold warnsL scopeW
  rw [r, u, namesU_nil]
  simp [varsW, varW, locsW, locB1, inL, definesL, labelsOf, defW, varB, BlkL.kind, BlkL.label, used_nil]
  rfl
theorem lint_var : LintOK 1 [varB] := by
  have u : usesD 2 [varB] = [] := by simp [usesD, usesB, varB, BlkL.kind, BlkL.blocks]
  refine ⟨⟨by simp, fun b hb => ?_⟩, ⟨by simp, fun b hb => ?_, fun b hb => ?_, fun b hb => ?_, by simp [refsL, refsB, varB, BlkL.kind]⟩, fun b hb => ?_, by rw [u]; simp, fun ns hn => by rw [u] at hn; cases hn⟩
  · obtain rfl : b = varB := by simpa using hb
    refine ⟨BlkOK.plain (.inl rfl) (by kernel_rfl) ⟨by simp [varB, BlkL.attrs], fun a ha => (by cases ha), fun a ha => (by cases ha), fun j a h => by simp [varB, BlkL.attrs] at h, fun a ha => by cases ha⟩ rfl, by show (1 : Nat) ≤ _; omega, ⟨by simp [varB, BlkL.blocks], fun b hb => by cases hb⟩⟩
  · obtain rfl : b = varB := by simpa using hb
    show (1 : Nat) ≤ _; omega
  · obtain rfl : b = varB := by simpa using hb
    exact ⟨by simp [varB, BlkL.attrs], fun a ha => by cases ha⟩
  · obtain rfl : b = varB := by simpa using hb
    exact fun a ha => by cases ha
  · obtain rfl : b = varB := by simpa using hb
    exact scopeOK_nil
set_option maxHeartbeats 1000000 in
set_option maxRecDepth 20000 in
theorem law_awake9 (hv : ErrVar w) : Calls Tryz.prog 5 #[] w (Made (.bool true) w) := by
  have V := Lib.hid hv
  have B0 := Lib.hid (below_al (Below.refl w.heap.size w) (.cells #[.int .i64 1, .string ⟨#[118]⟩, .slice none 0 0, .slice none 0 0] 28))
  have N0 := Lib.hid (heap_alloc_new w (.cells #[.int .i64 1, .string ⟨#[118]⟩, .slice none 0 0, .slice none 0 0] 28))
  clear hv
  go_enter Tryz.func5, Tryz.ntmps5
  go_wp2_with fail
  generalize w.alloc (.cells #[.int .i64 1, .string ⟨#[118]⟩, .slice none 0 0, .slice none 0 0] 28) = w1 at *
  have R1 := Lib.hid (show BlksRd 2 w1 (.slice (some ⟨w.heap.size, 0, none⟩) 1 1) [varB] from ⟨_, _, rfl, fun i b hi => by
    have hi0 : i = 0 := by have := (List.getElem?_eq_some_iff.1 hi).1; simpa using this
    subst hi0
    obtain rfl : varB = b := by simpa using hi
    refine ⟨w.heap.size, 0, none, 0, none, 0, rfl, ?_, ?_, ?_, ?_, ⟨none, 0, rfl, fun i a h => by simp [varB, BlkL.attrs] at h⟩, ⟨none, 0, rfl, fun i a h => by simp [varB, BlkL.blocks] at h⟩⟩
    · exact cell_of_row _ _ 0 _ _ _ N0.out
    · exact cell_of_row _ _ 1 _ _ _ N0.out
    · exact cell_of_row _ _ 2 _ _ _ N0.out
    · exact cell_of_row _ _ 3 _ _ _ N0.out⟩)
  have PW := Lib.hid (pWarns w1 0 _ [varB] R1.out lint_var (V.out.below B0.out V.out.lt))
  rw [warns_var] at PW
  refine PW.out.mono ?_
  rintro e w2 ⟨v, rfl, ho, hb2⟩
  rcases ho.2 with ⟨-, h0⟩ | ⟨g, cap, cur, rfl, -⟩
  · exact absurd h0 (by simp)
  have c0 : w2.cell? ⟨g, 0, none⟩ = some (.int .i64 1) := by rw [World.ownsRow.cellAt ho 0 (by simp)]; rfl
  have c1 : w2.cell? ⟨g, 1, none⟩ = some (.string ⟨#[118]⟩) := by rw [World.ownsRow.cellAt ho 1 (by simp)]; rfl
  have B2 := Lib.hid (B0.out.trans (hb2.mono B0.out.size))
  simp only [List.length_cons, List.length_nil, Nat.zero_add]
  clear ho hb2 PW R1 N0
  go_wp2_with fail
  have PT := Lib.hid (ptext1 w2 ⟨#[118]⟩ (by show (1 : Nat) ≤ _; omega))
  refine PT.out.mono ?_
  rintro e w3 ⟨rfl, hb3⟩
  have B3 := Lib.hid (B2.out.trans (hb3.mono B2.out.size))
  have e1 : ((⟨#[118, 97, 114, 105, 97, 98, 108, 101]⟩ ++ ⟨#[32]⟩ ++ ⟨#[118]⟩ ++ sNotUsed : ByteArray).toList == [118, 97, 114, 105, 97, 98, 108, 101, 32, 118, 32, 105, 115, 32, 110, 111, 116, 32, 117, 115, 101, 100]) = true := by kernel_rfl
  clear hb3 PT
  go_wp2_with fail
  go_ret
  exact ⟨rfl, B3.out⟩
end
end Go.Proofs.YtlkdicabmikhkaaGreatDoor
