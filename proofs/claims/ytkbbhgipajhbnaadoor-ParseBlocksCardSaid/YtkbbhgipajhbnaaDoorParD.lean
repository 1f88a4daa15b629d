/- The contract of package parse's operator; what the recursive methods come to. -/
import Derived.Test.YtkbbhgipajhbnaaDoorParC
namespace Go.Proofs.YtkbbhgipajhbnaaDoor
open Go.RowKit
set_option linter.unusedVariables false
set_option linter.unusedSimpArgs false

def opKind (sg : ByteArray) : Int × Int :=
  if sg = ⟨#[124, 124]⟩ then (11, 1)
  else if sg = ⟨#[38, 38]⟩ then (12, 2)
  else if sg = ⟨#[61, 61]⟩ then (13, 3)
  else if sg = ⟨#[33, 61]⟩ then (14, 3)
  else if sg = ⟨#[60]⟩ then (15, 3)
  else if sg = ⟨#[60, 61]⟩ then (16, 3)
  else if sg = ⟨#[62]⟩ then (17, 3)
  else if sg = ⟨#[62, 61]⟩ then (18, 3)
  else if sg = ⟨#[43]⟩ then (19, 4)
  else if sg = ⟨#[45]⟩ then (20, 4)
  else if sg = ⟨#[42]⟩ then (21, 5)
  else if sg = ⟨#[47]⟩ then (22, 5)
  else if sg = ⟨#[37]⟩ then (23, 5)
  else (0, 0)
def opOf (sg : ByteArray) (rank : Int) : Int := if (opKind sg).2 = rank then (opKind sg).1 else 0
theorem lit_eq {a : ByteArray} {l : List UInt8} : (a.toList == l) = decide (a = ⟨l.toArray⟩) := by
  have h : (⟨l.toArray⟩ : ByteArray).toList = l := by rw [ByteArray.toList_eq]
  have e := str_eq a ⟨l.toArray⟩
  rw [h] at e
  exact e
theorem str_ne {a : ByteArray} {l : List UInt8} (h : a ≠ ⟨l.toArray⟩) : (a.toList == l) = false := by rw [lit_eq]; exact decide_eq_false h
theorem str_is {a : ByteArray} {l : List UInt8} (h : a = ⟨l.toArray⟩) : (a.toList == l) = true := by rw [lit_eq]; exact decide_eq_true h
set_option maxHeartbeats 2000000 in
set_option maxRecDepth 20000 in
theorem poper (sg : ByteArray) (rank : Int) (w : World) : Calls Tryd.prog 57 #[.string sg, .int .i64 rank] w fun e w' => e = .returned (.int .i64 (opOf sg rank)) ∧ w = w' := by
  by_cases h0 : sg = ⟨#[124, 124]⟩
  · have e0 : (sg.toList == ([124, 124] : List UInt8)) = true := str_is h0
    have EK : opKind sg = (11, 1) := by rw [h0]; rfl
    clear h0
    by_cases hr : (1 : Int) = rank
    · have E := Lib.hid (show opOf sg rank = 11 by unfold opOf; rw [EK]; exact if_pos hr)
      have g : ((1 : Int) != rank) = false := by simpa using hr
      clear hr EK
      go_enter Tryd.func57, Tryd.ntmps57
      go_wp2_with fail
      go_ret
      exact ⟨by rw [E.out]; rfl, rfl⟩
    · have E := Lib.hid (show opOf sg rank = 0 by unfold opOf; rw [EK]; exact if_neg hr)
      have g : ((1 : Int) != rank) = true := by simpa using hr
      clear hr EK
      go_enter Tryd.func57, Tryd.ntmps57
      go_wp2_with fail
      go_ret
      exact ⟨by rw [E.out]; rfl, rfl⟩
  have n0 : (sg.toList == ([124, 124] : List UInt8)) = false := str_ne h0
  by_cases h1 : sg = ⟨#[38, 38]⟩
  · have e1 : (sg.toList == ([38, 38] : List UInt8)) = true := str_is h1
    have EK : opKind sg = (12, 2) := by rw [h1]; rfl
    clear h1
    by_cases hr : (2 : Int) = rank
    · have E := Lib.hid (show opOf sg rank = 12 by unfold opOf; rw [EK]; exact if_pos hr)
      have g : ((2 : Int) != rank) = false := by simpa using hr
      clear hr EK
      go_enter Tryd.func57, Tryd.ntmps57
      go_wp2_with fail
      go_ret
      exact ⟨by rw [E.out]; rfl, rfl⟩
    · have E := Lib.hid (show opOf sg rank = 0 by unfold opOf; rw [EK]; exact if_neg hr)
      have g : ((2 : Int) != rank) = true := by simpa using hr
      clear hr EK
      go_enter Tryd.func57, Tryd.ntmps57
      go_wp2_with fail
      go_ret
      exact ⟨by rw [E.out]; rfl, rfl⟩
  have n1 : (sg.toList == ([38, 38] : List UInt8)) = false := str_ne h1
  by_cases h2 : sg = ⟨#[61, 61]⟩
  · have e2 : (sg.toList == ([61, 61] : List UInt8)) = true := str_is h2
    have EK : opKind sg = (13, 3) := by rw [h2]; rfl
    clear h2
    by_cases hr : (3 : Int) = rank
    · have E := Lib.hid (show opOf sg rank = 13 by unfold opOf; rw [EK]; exact if_pos hr)
      have g : ((3 : Int) != rank) = false := by simpa using hr
      clear hr EK
      go_enter Tryd.func57, Tryd.ntmps57
      go_wp2_with fail
      go_ret
      exact ⟨by rw [E.out]; rfl, rfl⟩
    · have E := Lib.hid (show opOf sg rank = 0 by unfold opOf; rw [EK]; exact if_neg hr)
      have g : ((3 : Int) != rank) = true := by simpa using hr
      clear hr EK
      go_enter Tryd.func57, Tryd.ntmps57
      go_wp2_with fail
      go_ret
      exact ⟨by rw [E.out]; rfl, rfl⟩
  have n2 : (sg.toList == ([61, 61] : List UInt8)) = false := str_ne h2
  by_cases h3 : sg = ⟨#[33, 61]⟩
  · have e3 : (sg.toList == ([33, 61] : List UInt8)) = true := str_is h3
    have EK : opKind sg = (14, 3) := by rw [h3]; rfl
    clear h3
    by_cases hr : (3 : Int) = rank
    · have E := Lib.hid (show opOf sg rank = 14 by unfold opOf; rw [EK]; exact if_pos hr)
      have g : ((3 : Int) != rank) = false := by simpa using hr
      clear hr EK
      go_enter Tryd.func57, Tryd.ntmps57
      go_wp2_with fail
      go_ret
      exact ⟨by rw [E.out]; rfl, rfl⟩
    · have E := Lib.hid (show opOf sg rank = 0 by unfold opOf; rw [EK]; exact if_neg hr)
      have g : ((3 : Int) != rank) = true := by simpa using hr
      clear hr EK
      go_enter Tryd.func57, Tryd.ntmps57
      go_wp2_with fail
      go_ret
      exact ⟨by rw [E.out]; rfl, rfl⟩
  have n3 : (sg.toList == ([33, 61] : List UInt8)) = false := str_ne h3
  by_cases h4 : sg = ⟨#[60]⟩
  · have e4 : (sg.toList == ([60] : List UInt8)) = true := str_is h4
    have EK : opKind sg = (15, 3) := by rw [h4]; rfl
    clear h4
    by_cases hr : (3 : Int) = rank
    · have E := Lib.hid (show opOf sg rank = 15 by unfold opOf; rw [EK]; exact if_pos hr)
      have g : ((3 : Int) != rank) = false := by simpa using hr
      clear hr EK
      go_enter Tryd.func57, Tryd.ntmps57
      go_wp2_with fail
      go_ret
      exact ⟨by rw [E.out]; rfl, rfl⟩
    · have E := Lib.hid (show opOf sg rank = 0 by unfold opOf; rw [EK]; exact if_neg hr)
      have g : ((3 : Int) != rank) = true := by simpa using hr
      clear hr EK
      go_enter Tryd.func57, Tryd.ntmps57
      go_wp2_with fail
      go_ret
      exact ⟨by rw [E.out]; rfl, rfl⟩
  have n4 : (sg.toList == ([60] : List UInt8)) = false := str_ne h4
  by_cases h5 : sg = ⟨#[60, 61]⟩
  · have e5 : (sg.toList == ([60, 61] : List UInt8)) = true := str_is h5
    have EK : opKind sg = (16, 3) := by rw [h5]; rfl
    clear h5
    by_cases hr : (3 : Int) = rank
    · have E := Lib.hid (show opOf sg rank = 16 by unfold opOf; rw [EK]; exact if_pos hr)
      have g : ((3 : Int) != rank) = false := by simpa using hr
      clear hr EK
      go_enter Tryd.func57, Tryd.ntmps57
      go_wp2_with fail
      go_ret
      exact ⟨by rw [E.out]; rfl, rfl⟩
    · have E := Lib.hid (show opOf sg rank = 0 by unfold opOf; rw [EK]; exact if_neg hr)
      have g : ((3 : Int) != rank) = true := by simpa using hr
      clear hr EK
      go_enter Tryd.func57, Tryd.ntmps57
      go_wp2_with fail
      go_ret
      exact ⟨by rw [E.out]; rfl, rfl⟩
  have n5 : (sg.toList == ([60, 61] : List UInt8)) = false := str_ne h5
  by_cases h6 : sg = ⟨#[62]⟩
  · have e6 : (sg.toList == ([62] : List UInt8)) = true := str_is h6
    have EK : opKind sg = (17, 3) := by rw [h6]; rfl
    clear h6
    by_cases hr : (3 : Int) = rank
    · have E := Lib.hid (show opOf sg rank = 17 by unfold opOf; rw [EK]; exact if_pos hr)
      have g : ((3 : Int) != rank) = false := by simpa using hr
      clear hr EK
      go_enter Tryd.func57, Tryd.ntmps57
      go_wp2_with fail
      go_ret
      exact ⟨by rw [E.out]; rfl, rfl⟩
    · have E := Lib.hid (show opOf sg rank = 0 by unfold opOf; rw [EK]; exact if_neg hr)
      have g : ((3 : Int) != rank) = true := by simpa using hr
      clear hr EK
      go_enter Tryd.func57, Tryd.ntmps57
      go_wp2_with fail
      go_ret
      exact ⟨by rw [E.out]; rfl, rfl⟩
  have n6 : (sg.toList == ([62] : List UInt8)) = false := str_ne h6
  by_cases h7 : sg = ⟨#[62, 61]⟩
  · have e7 : (sg.toList == ([62, 61] : List UInt8)) = true := str_is h7
    have EK : opKind sg = (18, 3) := by rw [h7]; rfl
    clear h7
    by_cases hr : (3 : Int) = rank
    · have E := Lib.hid (show opOf sg rank = 18 by unfold opOf; rw [EK]; exact if_pos hr)
      have g : ((3 : Int) != rank) = false := by simpa using hr
      clear hr EK
      go_enter Tryd.func57, Tryd.ntmps57
      go_wp2_with fail
      go_ret
      exact ⟨by rw [E.out]; rfl, rfl⟩
    · have E := Lib.hid (show opOf sg rank = 0 by unfold opOf; rw [EK]; exact if_neg hr)
      have g : ((3 : Int) != rank) = true := by simpa using hr
      clear hr EK
      go_enter Tryd.func57, Tryd.ntmps57
      go_wp2_with fail
      go_ret
      exact ⟨by rw [E.out]; rfl, rfl⟩
  have n7 : (sg.toList == ([62, 61] : List UInt8)) = false := str_ne h7
  by_cases h8 : sg = ⟨#[43]⟩
  · have e8 : (sg.toList == ([43] : List UInt8)) = true := str_is h8
    have EK : opKind sg = (19, 4) := by rw [h8]; rfl
    clear h8
    by_cases hr : (4 : Int) = rank
    · have E := Lib.hid (show opOf sg rank = 19 by unfold opOf; rw [EK]; exact if_pos hr)
      have g : ((4 : Int) != rank) = false := by simpa using hr
      clear hr EK
      go_enter Tryd.func57, Tryd.ntmps57
      go_wp2_with fail
      go_ret
      exact ⟨by rw [E.out]; rfl, rfl⟩
    · have E := Lib.hid (show opOf sg rank = 0 by unfold opOf; rw [EK]; exact if_neg hr)
      have g : ((4 : Int) != rank) = true := by simpa using hr
      clear hr EK
      go_enter Tryd.func57, Tryd.ntmps57
      go_wp2_with fail
      go_ret
      exact ⟨by rw [E.out]; rfl, rfl⟩
  have n8 : (sg.toList == ([43] : List UInt8)) = false := str_ne h8
  by_cases h9 : sg = ⟨#[45]⟩
  · have e9 : (sg.toList == ([45] : List UInt8)) = true := str_is h9
    have EK : opKind sg = (20, 4) := by rw [h9]; rfl
    clear h9
    by_cases hr : (4 : Int) = rank
    · have E := Lib.hid (show opOf sg rank = 20 by unfold opOf; rw [EK]; exact if_pos hr)
      have g : ((4 : Int) != rank) = false := by simpa using hr
      clear hr EK
      go_enter Tryd.func57, Tryd.ntmps57
      go_wp2_with fail
      go_ret
      exact ⟨by rw [E.out]; rfl, rfl⟩
    · have E := Lib.hid (show opOf sg rank = 0 by unfold opOf; rw [EK]; exact if_neg hr)
      have g : ((4 : Int) != rank) = true := by simpa using hr
      clear hr EK
      go_enter Tryd.func57, Tryd.ntmps57
      go_wp2_with fail
      go_ret
      exact ⟨by rw [E.out]; rfl, rfl⟩
  have n9 : (sg.toList == ([45] : List UInt8)) = false := str_ne h9
  by_cases h10 : sg = ⟨#[42]⟩
  · have e10 : (sg.toList == ([42] : List UInt8)) = true := str_is h10
    have EK : opKind sg = (21, 5) := by rw [h10]; rfl
    clear h10
    by_cases hr : (5 : Int) = rank
    · have E := Lib.hid (show opOf sg rank = 21 by unfold opOf; rw [EK]; exact if_pos hr)
      have g : ((5 : Int) != rank) = false := by simpa using hr
      clear hr EK
      go_enter Tryd.func57, Tryd.ntmps57
      go_wp2_with fail
      go_ret
      exact ⟨by rw [E.out]; rfl, rfl⟩
    · have E := Lib.hid (show opOf sg rank = 0 by unfold opOf; rw [EK]; exact if_neg hr)
      have g : ((5 : Int) != rank) = true := by simpa using hr
      clear hr EK
      go_enter Tryd.func57, Tryd.ntmps57
      go_wp2_with fail
      go_ret
      exact ⟨by rw [E.out]; rfl, rfl⟩
  have n10 : (sg.toList == ([42] : List UInt8)) = false := str_ne h10
  by_cases h11 : sg = ⟨#[47]⟩
  · have e11 : (sg.toList == ([47] : List UInt8)) = true := str_is h11
    have EK : opKind sg = (22, 5) := by rw [h11]; rfl
    clear h11
    by_cases hr : (5 : Int) = rank
    · have E := Lib.hid (show opOf sg rank = 22 by unfold opOf; rw [EK]; exact if_pos hr)
      have g : ((5 : Int) != rank) = false := by simpa using hr
      clear hr EK
      go_enter Tryd.func57, Tryd.ntmps57
      go_wp2_with fail
      go_ret
      exact ⟨by rw [E.out]; rfl, rfl⟩
    · have E := Lib.hid (show opOf sg rank = 0 by unfold opOf; rw [EK]; exact if_neg hr)
      have g : ((5 : Int) != rank) = true := by simpa using hr
      clear hr EK
      go_enter Tryd.func57, Tryd.ntmps57
      go_wp2_with fail
      go_ret
      exact ⟨by rw [E.out]; rfl, rfl⟩
  have n11 : (sg.toList == ([47] : List UInt8)) = false := str_ne h11
  by_cases h12 : sg = ⟨#[37]⟩
  · have e12 : (sg.toList == ([37] : List UInt8)) = true := str_is h12
    have EK : opKind sg = (23, 5) := by rw [h12]; rfl
    clear h12
    by_cases hr : (5 : Int) = rank
    · have E := Lib.hid (show opOf sg rank = 23 by unfold opOf; rw [EK]; exact if_pos hr)
      have g : ((5 : Int) != rank) = false := by simpa using hr
      clear hr EK
      go_enter Tryd.func57, Tryd.ntmps57
      go_wp2_with fail
      go_ret
      exact ⟨by rw [E.out]; rfl, rfl⟩
    · have E := Lib.hid (show opOf sg rank = 0 by unfold opOf; rw [EK]; exact if_neg hr)
      have g : ((5 : Int) != rank) = true := by simpa using hr
      clear hr EK
      go_enter Tryd.func57, Tryd.ntmps57
      go_wp2_with fail
      go_ret
      exact ⟨by rw [E.out]; rfl, rfl⟩
  have n12 : (sg.toList == ([37] : List UInt8)) = false := str_ne h12
  have EK : opKind sg = (0, 0) := by unfold opKind; rw [if_neg h0, if_neg h1, if_neg h2, if_neg h3, if_neg h4, if_neg h5, if_neg h6, if_neg h7, if_neg h8, if_neg h9, if_neg h10, if_neg h11, if_neg h12]
  clear h0 h1 h2 h3 h4 h5 h6 h7 h8 h9 h10 h11 h12
  have E := Lib.hid (show opOf sg rank = 0 by unfold opOf; rw [EK]; split <;> rfl)
  clear EK
  by_cases hr : (0 : Int) = rank
  · have g : ((0 : Int) != rank) = false := by simpa using hr
    clear hr
    go_enter Tryd.func57, Tryd.ntmps57
    go_wp2_with fail
    go_ret
    exact ⟨by rw [E.out]; rfl, rfl⟩
  · have g : ((0 : Int) != rank) = true := by simpa using hr
    clear hr
    go_enter Tryd.func57, Tryd.ntmps57
    go_wp2_with fail
    go_ret
    exact ⟨by rw [E.out]; rfl, rfl⟩
end Go.Proofs.YtkbbhgipajhbnaaDoor
