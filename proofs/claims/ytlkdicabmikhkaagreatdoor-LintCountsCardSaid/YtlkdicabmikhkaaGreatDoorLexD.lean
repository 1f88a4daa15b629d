/- The contract of the lexer's sign. -/
import Derived.Test.YtlkdicabmikhkaaGreatDoorLexC
namespace Go.Proofs.YtlkdicabmikhkaaGreatDoor
open Go.RowKit
set_option linter.unusedVariables false
set_option linter.unusedSimpArgs false

def twoSign : Nat → ByteArray
  | 0 => ⟨#[61, 61]⟩ | 1 => ⟨#[33, 61]⟩ | 2 => ⟨#[60, 61]⟩ | 3 => ⟨#[62, 61]⟩ | 4 => ⟨#[38, 38]⟩ | _ => ⟨#[124, 124]⟩
def twoOk (s : ByteArray) (k : Nat) : Bool := isAt s (twoSign 0) k || isAt s (twoSign 1) k || isAt s (twoSign 2) k || isAt s (twoSign 3) k || isAt s (twoSign 4) k || isAt s (twoSign 5) k
def oneB (c : Int) : Bool := c == 123 || c == 125 || c == 91 || c == 93 || c == 40 || c == 41 || c == 61 || c == 44 || c == 46 || c == 43 || c == 45 || c == 42 || c == 47 || c == 37 || c == 60 || c == 62 || c == 33 || c == 63 || c == 58
def signOk (s : ByteArray) (k : Nat) : Bool := twoOk s k || oneB (pk s k)
def signTo (s : ByteArray) (k : Nat) : Nat := if twoOk s k then k + 2 else rdTo s k
theorem twoOk_of {s : ByteArray} {k : Nat} (i : Nat) (hi : i < 6) (h : isAt s (twoSign i) k = true) : twoOk s k = true := by
  unfold twoOk
  match i, hi with
  | 0, _ => simp [h]
  | 1, _ => simp [h]
  | 2, _ => simp [h]
  | 3, _ => simp [h]
  | 4, _ => simp [h]
  | 5, _ => simp [h]
theorem twoOk_none {s : ByteArray} {k : Nat} (h : ∀ i, i < 6 → isAt s (twoSign i) k = false) : twoOk s k = false := by
  simp [twoOk, h 0 (by omega), h 1 (by omega), h 2 (by omega), h 3 (by omega), h 4 (by omega), h 5 (by omega)]
theorem twoSize (i : Nat) : (twoSign i).size = 2 := by
  unfold twoSign; split <;> rfl
theorem tkAllTo_yes {s q : ByteArray} {k : Nat} (h : isAt s q k = true) : tkAllTo s q k = k + q.size := by simp [tkAllTo, h]
theorem tkAllTo_no {s q : ByteArray} {k : Nat} (h : isAt s q k = false) : tkAllTo s q k = k := by simp [tkAllTo, h]

def SignRel (b k : Nat) (s : ByteArray) (w : World) (m : Nat) (v : Value) (wr : World) : Prop :=
  ∃ i : Nat, i ≤ 6 ∧ m = 6 - i ∧ v = .int .i64 i ∧ (∀ j, j < i → isAt s (twoSign j) k = false) ∧ Rd wr b s k ∧ Adv b w wr
theorem six0 (w : World) : (Instr.index 135 (.agg #[.string ⟨#[61, 61]⟩, .string ⟨#[33, 61]⟩, .string ⟨#[60, 61]⟩, .string ⟨#[62, 61]⟩, .string ⟨#[38, 38]⟩, .string ⟨#[124, 124]⟩]) (.int .i64 0)).run Tryz.prog w = .ok (.string (twoSign 0)) w := by kernel_rfl
theorem six1 (w : World) : (Instr.index 135 (.agg #[.string ⟨#[61, 61]⟩, .string ⟨#[33, 61]⟩, .string ⟨#[60, 61]⟩, .string ⟨#[62, 61]⟩, .string ⟨#[38, 38]⟩, .string ⟨#[124, 124]⟩]) (.int .i64 1)).run Tryz.prog w = .ok (.string (twoSign 1)) w := by kernel_rfl
theorem six2 (w : World) : (Instr.index 135 (.agg #[.string ⟨#[61, 61]⟩, .string ⟨#[33, 61]⟩, .string ⟨#[60, 61]⟩, .string ⟨#[62, 61]⟩, .string ⟨#[38, 38]⟩, .string ⟨#[124, 124]⟩]) (.int .i64 2)).run Tryz.prog w = .ok (.string (twoSign 2)) w := by kernel_rfl
theorem six3 (w : World) : (Instr.index 135 (.agg #[.string ⟨#[61, 61]⟩, .string ⟨#[33, 61]⟩, .string ⟨#[60, 61]⟩, .string ⟨#[62, 61]⟩, .string ⟨#[38, 38]⟩, .string ⟨#[124, 124]⟩]) (.int .i64 3)).run Tryz.prog w = .ok (.string (twoSign 3)) w := by kernel_rfl
theorem six4 (w : World) : (Instr.index 135 (.agg #[.string ⟨#[61, 61]⟩, .string ⟨#[33, 61]⟩, .string ⟨#[60, 61]⟩, .string ⟨#[62, 61]⟩, .string ⟨#[38, 38]⟩, .string ⟨#[124, 124]⟩]) (.int .i64 4)).run Tryz.prog w = .ok (.string (twoSign 4)) w := by kernel_rfl
theorem six5 (w : World) : (Instr.index 135 (.agg #[.string ⟨#[61, 61]⟩, .string ⟨#[33, 61]⟩, .string ⟨#[60, 61]⟩, .string ⟨#[62, 61]⟩, .string ⟨#[38, 38]⟩, .string ⟨#[124, 124]⟩]) (.int .i64 5)).run Tryz.prog w = .ok (.string (twoSign 5)) w := by kernel_rfl
section
variable (b k : Nat) (s : ByteArray) (w : World)
set_option maxHeartbeats 1000000 in
set_option maxRecDepth 20000 in
theorem sign_any (h : Rd w b s k) (hk : k ≤ s.size) (hs : s.size ≤ 6000) :
    Calls Tryz.prog 80 #[.pointer (some ⟨b, 0, none⟩)] w (Moved b s (signTo s k) (.bool (signOk s k)) w) := by
  have HL := Lib.hid (len_ok hs)
  have HR := Lib.hid h
  have HK := Lib.hid hk
  clear h hk hs
  go_enter Tryz.func80, Tryz.ntmps80
  go_wp2_with fail
  go_loopg [6] 6 (fun m v wr => SignRel b k s w m v wr)
  case atStart => exact ⟨0, by omega, rfl, rfl, fun j hj => absurd hj (by omega), HR.out, Adv.refl b w⟩
  case round =>
    obtain ⟨i, hi, hm, rfl, hn, hr, ha⟩ := hrel
    have HM := Lib.hid hm
    have HN := Lib.hid hn
    have R := Lib.hid hr
    have HA := Lib.hid ha
    clear hm hn hr ha
    have hi6 : i = 0 ∨ i = 1 ∨ i = 2 ∨ i = 3 ∨ i = 4 ∨ i = 5 ∨ i = 6 := by omega
    clear hi
    rcases hi6 with rfl | rfl | rfl | rfl | rfl | rfl | rfl
    · have hx := six0
      cases ht : isAt s (twoSign 0) k
      · have HT := Lib.hid ht
        have KT := Lib.hid (tkAllTo_no ht)
        clear ht
        go_wp2_with fail
        refine (takeAll_any b k s (twoSign 0) wr R.out HK.out HL.out (by decide)).mono ?_
        rw [HT.out, KT.out]
        rintro e w1 ⟨rfl, hr1, ha1⟩
        have R1 := Lib.hid hr1
        have A1 := Lib.hid (HA.out.trans ha1)
        clear hr1 ha1
        go_wp2_with fail
        go_roundg 5
        case rel => exact ⟨1, by omega, rfl, rfl, fun j hj => by
          by_cases e : j = 0
          · rw [e]; exact HT.out
          · exact HN.out j (by omega), R1.out, A1.out⟩
        case measure => have := HM.out; omega
      · have HT := Lib.hid ht
        have KT := Lib.hid ((tkAllTo_yes ht).trans (by rw [twoSize]))
        have e1 : signTo s k = k + 2 := by rw [signTo, twoOk_of 0 (by omega) ht]; rfl
        have e2 : signOk s k = true := by rw [signOk, twoOk_of 0 (by omega) ht]; rfl
        have E1 := Lib.hid e1
        have E2 := Lib.hid e2
        clear ht e1 e2
        go_wp2_with fail
        refine (takeAll_any b k s (twoSign 0) wr R.out HK.out HL.out (by decide)).mono ?_
        rw [HT.out, KT.out]
        rintro e w1 ⟨rfl, hr1, ha1⟩
        have R1 := Lib.hid hr1
        have A1 := Lib.hid (HA.out.trans ha1)
        clear hr1 ha1
        go_wp2_with fail
        go_ret
        exact ⟨by rw [E2.out]; rfl, by rw [E1.out]; exact R1.out, A1.out⟩
    · have hx := six1
      cases ht : isAt s (twoSign 1) k
      · have HT := Lib.hid ht
        have KT := Lib.hid (tkAllTo_no ht)
        clear ht
        go_wp2_with fail
        refine (takeAll_any b k s (twoSign 1) wr R.out HK.out HL.out (by decide)).mono ?_
        rw [HT.out, KT.out]
        rintro e w1 ⟨rfl, hr1, ha1⟩
        have R1 := Lib.hid hr1
        have A1 := Lib.hid (HA.out.trans ha1)
        clear hr1 ha1
        go_wp2_with fail
        go_roundg 4
        case rel => exact ⟨2, by omega, rfl, rfl, fun j hj => by
          by_cases e : j = 1
          · rw [e]; exact HT.out
          · exact HN.out j (by omega), R1.out, A1.out⟩
        case measure => have := HM.out; omega
      · have HT := Lib.hid ht
        have KT := Lib.hid ((tkAllTo_yes ht).trans (by rw [twoSize]))
        have e1 : signTo s k = k + 2 := by rw [signTo, twoOk_of 1 (by omega) ht]; rfl
        have e2 : signOk s k = true := by rw [signOk, twoOk_of 1 (by omega) ht]; rfl
        have E1 := Lib.hid e1
        have E2 := Lib.hid e2
        clear ht e1 e2
        go_wp2_with fail
        refine (takeAll_any b k s (twoSign 1) wr R.out HK.out HL.out (by decide)).mono ?_
        rw [HT.out, KT.out]
        rintro e w1 ⟨rfl, hr1, ha1⟩
        have R1 := Lib.hid hr1
        have A1 := Lib.hid (HA.out.trans ha1)
        clear hr1 ha1
        go_wp2_with fail
        go_ret
        exact ⟨by rw [E2.out]; rfl, by rw [E1.out]; exact R1.out, A1.out⟩
    · have hx := six2
      cases ht : isAt s (twoSign 2) k
      · have HT := Lib.hid ht
        have KT := Lib.hid (tkAllTo_no ht)
        clear ht
        go_wp2_with fail
        refine (takeAll_any b k s (twoSign 2) wr R.out HK.out HL.out (by decide)).mono ?_
        rw [HT.out, KT.out]
        rintro e w1 ⟨rfl, hr1, ha1⟩
        have R1 := Lib.hid hr1
        have A1 := Lib.hid (HA.out.trans ha1)
        clear hr1 ha1
        go_wp2_with fail
        go_roundg 3
        case rel => exact ⟨3, by omega, rfl, rfl, fun j hj => by
          by_cases e : j = 2
          · rw [e]; exact HT.out
          · exact HN.out j (by omega), R1.out, A1.out⟩
        case measure => have := HM.out; omega
      · have HT := Lib.hid ht
        have KT := Lib.hid ((tkAllTo_yes ht).trans (by rw [twoSize]))
        have e1 : signTo s k = k + 2 := by rw [signTo, twoOk_of 2 (by omega) ht]; rfl
        have e2 : signOk s k = true := by rw [signOk, twoOk_of 2 (by omega) ht]; rfl
        have E1 := Lib.hid e1
        have E2 := Lib.hid e2
        clear ht e1 e2
        go_wp2_with fail
        refine (takeAll_any b k s (twoSign 2) wr R.out HK.out HL.out (by decide)).mono ?_
        rw [HT.out, KT.out]
        rintro e w1 ⟨rfl, hr1, ha1⟩
        have R1 := Lib.hid hr1
        have A1 := Lib.hid (HA.out.trans ha1)
        clear hr1 ha1
        go_wp2_with fail
        go_ret
        exact ⟨by rw [E2.out]; rfl, by rw [E1.out]; exact R1.out, A1.out⟩
    · have hx := six3
      cases ht : isAt s (twoSign 3) k
      · have HT := Lib.hid ht
        have KT := Lib.hid (tkAllTo_no ht)
        clear ht
        go_wp2_with fail
        refine (takeAll_any b k s (twoSign 3) wr R.out HK.out HL.out (by decide)).mono ?_
        rw [HT.out, KT.out]
        rintro e w1 ⟨rfl, hr1, ha1⟩
        have R1 := Lib.hid hr1
        have A1 := Lib.hid (HA.out.trans ha1)
        clear hr1 ha1
        go_wp2_with fail
        go_roundg 2
        case rel => exact ⟨4, by omega, rfl, rfl, fun j hj => by
          by_cases e : j = 3
          · rw [e]; exact HT.out
          · exact HN.out j (by omega), R1.out, A1.out⟩
        case measure => have := HM.out; omega
      · have HT := Lib.hid ht
        have KT := Lib.hid ((tkAllTo_yes ht).trans (by rw [twoSize]))
        have e1 : signTo s k = k + 2 := by rw [signTo, twoOk_of 3 (by omega) ht]; rfl
        have e2 : signOk s k = true := by rw [signOk, twoOk_of 3 (by omega) ht]; rfl
        have E1 := Lib.hid e1
        have E2 := Lib.hid e2
        clear ht e1 e2
        go_wp2_with fail
        refine (takeAll_any b k s (twoSign 3) wr R.out HK.out HL.out (by decide)).mono ?_
        rw [HT.out, KT.out]
        rintro e w1 ⟨rfl, hr1, ha1⟩
        have R1 := Lib.hid hr1
        have A1 := Lib.hid (HA.out.trans ha1)
        clear hr1 ha1
        go_wp2_with fail
        go_ret
        exact ⟨by rw [E2.out]; rfl, by rw [E1.out]; exact R1.out, A1.out⟩
    · have hx := six4
      cases ht : isAt s (twoSign 4) k
      · have HT := Lib.hid ht
        have KT := Lib.hid (tkAllTo_no ht)
        clear ht
        go_wp2_with fail
        refine (takeAll_any b k s (twoSign 4) wr R.out HK.out HL.out (by decide)).mono ?_
        rw [HT.out, KT.out]
        rintro e w1 ⟨rfl, hr1, ha1⟩
        have R1 := Lib.hid hr1
        have A1 := Lib.hid (HA.out.trans ha1)
        clear hr1 ha1
        go_wp2_with fail
        go_roundg 1
        case rel => exact ⟨5, by omega, rfl, rfl, fun j hj => by
          by_cases e : j = 4
          · rw [e]; exact HT.out
          · exact HN.out j (by omega), R1.out, A1.out⟩
        case measure => have := HM.out; omega
      · have HT := Lib.hid ht
        have KT := Lib.hid ((tkAllTo_yes ht).trans (by rw [twoSize]))
        have e1 : signTo s k = k + 2 := by rw [signTo, twoOk_of 4 (by omega) ht]; rfl
        have e2 : signOk s k = true := by rw [signOk, twoOk_of 4 (by omega) ht]; rfl
        have E1 := Lib.hid e1
        have E2 := Lib.hid e2
        clear ht e1 e2
        go_wp2_with fail
        refine (takeAll_any b k s (twoSign 4) wr R.out HK.out HL.out (by decide)).mono ?_
        rw [HT.out, KT.out]
        rintro e w1 ⟨rfl, hr1, ha1⟩
        have R1 := Lib.hid hr1
        have A1 := Lib.hid (HA.out.trans ha1)
        clear hr1 ha1
        go_wp2_with fail
        go_ret
        exact ⟨by rw [E2.out]; rfl, by rw [E1.out]; exact R1.out, A1.out⟩
    · have hx := six5
      cases ht : isAt s (twoSign 5) k
      · have HT := Lib.hid ht
        have KT := Lib.hid (tkAllTo_no ht)
        clear ht
        go_wp2_with fail
        refine (takeAll_any b k s (twoSign 5) wr R.out HK.out HL.out (by decide)).mono ?_
        rw [HT.out, KT.out]
        rintro e w1 ⟨rfl, hr1, ha1⟩
        have R1 := Lib.hid hr1
        have A1 := Lib.hid (HA.out.trans ha1)
        clear hr1 ha1
        go_wp2_with fail
        go_roundg 0
        case rel => exact ⟨6, by omega, rfl, rfl, fun j hj => by
          by_cases e : j = 5
          · rw [e]; exact HT.out
          · exact HN.out j (by omega), R1.out, A1.out⟩
        case measure => have := HM.out; omega
      · have HT := Lib.hid ht
        have KT := Lib.hid ((tkAllTo_yes ht).trans (by rw [twoSize]))
        have e1 : signTo s k = k + 2 := by rw [signTo, twoOk_of 5 (by omega) ht]; rfl
        have e2 : signOk s k = true := by rw [signOk, twoOk_of 5 (by omega) ht]; rfl
        have E1 := Lib.hid e1
        have E2 := Lib.hid e2
        clear ht e1 e2
        go_wp2_with fail
        refine (takeAll_any b k s (twoSign 5) wr R.out HK.out HL.out (by decide)).mono ?_
        rw [HT.out, KT.out]
        rintro e w1 ⟨rfl, hr1, ha1⟩
        have R1 := Lib.hid hr1
        have A1 := Lib.hid (HA.out.trans ha1)
        clear hr1 ha1
        go_wp2_with fail
        go_ret
        exact ⟨by rw [E2.out]; rfl, by rw [E1.out]; exact R1.out, A1.out⟩
    · have e1 : signTo s k = rdTo s k := by simp [signTo, twoOk_none (HN.out)]
      have e2 : signOk s k = oneB (pk s k) := by simp [signOk, twoOk_none (HN.out)]
      generalize hc : pk s k = c at *
      have C := Lib.hid hc
      have E1 := Lib.hid e1
      have E2 := Lib.hid e2
      clear hc e1 e2
      go_wp2_with fail
      refine (read_any b k s wr R.out HL.out).mono ?_
      rw [C.out]
      rintro e w1 ⟨rfl, hr1, ha1⟩
      have R1 := Lib.hid hr1
      have A1 := Lib.hid (HA.out.trans ha1)
      clear hr1 ha1
      go_wp2_with fail
      all_goals go_ret
      all_goals (first
        | (have e : oneB c = true := by (simp only [oneB, *, Bool.true_or, Bool.or_true])
           exact ⟨by rw [E2.out, e]; rfl, by rw [E1.out]; exact R1.out, A1.out⟩)
        | (have e : oneB c = false := by (simp only [oneB, *, Bool.false_or, Bool.or_false])
           exact ⟨by rw [E2.out, e]; rfl, by rw [E1.out]; exact R1.out, A1.out⟩))
end
end Go.Proofs.YtlkdicabmikhkaaGreatDoor
