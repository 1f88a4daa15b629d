/- The contracts of the lexer's small methods: escaped, char, name, ref, skip. -/
import Derived.Test.YtlkdicabmikhkaaGreatDoorLexB
namespace Go.Proofs.YtlkdicabmikhkaaGreatDoor
open Go.RowKit
set_option linter.unusedVariables false

def escC (c : Int) : Int := if c = 34 ∨ c = 92 ∨ c = 36 then c else if c = 110 then 10 else 0
def escOk (c : Int) : Bool := c == 34 || c == 92 || c == 36 || c == 110
section
variable (b k : Nat) (s : ByteArray) (w : World)
theorem escaped_any (h : Rd w b s k) (hs : s.size ≤ maxLen) :
    Calls Tryz.prog 99 #[.pointer (some ⟨b, 0, none⟩)] w (Moved b s (rdTo s k) (.tuple #[.int .u8 (escC (pk s k)), .bool (escOk (pk s k))]) w) := by
  have HS := Lib.hid hs
  have HR := Lib.hid h
  clear hs h
  generalize hc : pk s k = c
  have HC := Lib.hid hc
  clear hc
  by_cases h1 : c = 34
  · subst h1
    have e1 : escC 34 = 34 := by decide
    have e2 : escOk 34 = true := by decide
    rw [e1, e2]; clear e1 e2
    go_enter Tryz.func99, Tryz.ntmps99
    go_wp2_with (go_at_call 93; refine (read_any b k s _ HR.out HS.out).mono ?_; rw [HC.out]; rintro e w1 ⟨rfl, hr1, ha1⟩)
    go_ret2
    exact ⟨rfl, hr1, ha1⟩
  by_cases h2 : c = 92
  · subst h2
    have e1 : escC 92 = 92 := by decide
    have e2 : escOk 92 = true := by decide
    rw [e1, e2]; clear e1 e2
    go_enter Tryz.func99, Tryz.ntmps99
    go_wp2_with (go_at_call 93; refine (read_any b k s _ HR.out HS.out).mono ?_; rw [HC.out]; rintro e w1 ⟨rfl, hr1, ha1⟩)
    go_ret2
    exact ⟨rfl, hr1, ha1⟩
  by_cases h3 : c = 36
  · subst h3
    have e1 : escC 36 = 36 := by decide
    have e2 : escOk 36 = true := by decide
    rw [e1, e2]; clear e1 e2
    go_enter Tryz.func99, Tryz.ntmps99
    go_wp2_with (go_at_call 93; refine (read_any b k s _ HR.out HS.out).mono ?_; rw [HC.out]; rintro e w1 ⟨rfl, hr1, ha1⟩)
    go_ret2
    exact ⟨rfl, hr1, ha1⟩
  by_cases h4 : c = 110
  · subst h4
    have e1 : escC 110 = 10 := by decide
    have e2 : escOk 110 = true := by decide
    rw [e1, e2]; clear e1 e2
    go_enter Tryz.func99, Tryz.ntmps99
    go_wp2_with (go_at_call 93; refine (read_any b k s _ HR.out HS.out).mono ?_; rw [HC.out]; rintro e w1 ⟨rfl, hr1, ha1⟩)
    go_ret2
    exact ⟨rfl, hr1, ha1⟩
  have e1 : escC c = 0 := by simp [escC, h1, h2, h3, h4]
  have e2 : escOk c = false := by simp [escOk, h1, h2, h3, h4]
  rw [e1, e2]; clear e1 e2
  have g1 : (c == 34) = false := by simpa using h1
  have g2 : (c == 92) = false := by simpa using h2
  have g3 : (c == 36) = false := by simpa using h3
  have g4 : (c == 110) = false := by simpa using h4
  clear h1 h2 h3 h4
  go_enter Tryz.func99, Tryz.ntmps99
  go_wp2_with (go_at_call 93; refine (read_any b k s _ HR.out HS.out).mono ?_; rw [HC.out]; rintro e w1 ⟨rfl, hr1, ha1⟩)
  go_ret2
  exact ⟨rfl, hr1, ha1⟩

def charC (s : ByteArray) (k : Nat) : Int := if tkB s k 92 then escC (pk s (k + 1)) else pk s k
def charOk (s : ByteArray) (k : Nat) : Bool := if tkB s k 92 then escOk (pk s (k + 1)) else decide (32 ≤ pk s k)
def charTo (s : ByteArray) (k : Nat) : Nat := if tkB s k 92 then rdTo s (k + 1) else rdTo s k
theorem tkTo_yes {s : ByteArray} {k : Nat} {c : Int} (h : tkB s k c = true) : tkTo s k c = k + 1 := by
  simp [tkB] at h; simp [tkTo, h]
theorem tkTo_no {s : ByteArray} {k : Nat} {c : Int} (h : tkB s k c = false) : tkTo s k c = k := by
  simp [tkB] at h; simp [tkTo]; intro h1 h2; exact absurd h2 (by simpa using h h1)
theorem char_any (h : Rd w b s k) (hs : s.size ≤ maxLen) :
    Calls Tryz.prog 92 #[.pointer (some ⟨b, 0, none⟩)] w (Moved b s (charTo s k) (.tuple #[.int .u8 (charC s k), .bool (charOk s k)]) w) := by
  have HS := Lib.hid hs
  have HR := Lib.hid h
  clear hs h
  cases ht : tkB s k 92
  · have e1 : charC s k = pk s k := by simp [charC, ht]
    have e2 : charTo s k = rdTo s k := by simp [charTo, ht]
    have e3 : charOk s k = decide (32 ≤ pk s k) := by simp [charOk, ht]
    rw [e1, e2, e3]; clear e1 e2 e3
    have HT := Lib.hid ht
    have HK := Lib.hid (tkTo_no ht)
    clear ht
    have q1 := pk_lo s k
    have q2 := pk_hi s k
    by_cases hc : 32 ≤ pk s k
    · have e : decide (32 ≤ pk s k) = true := by simpa using hc
      rw [e]
      go_enter Tryz.func92, Tryz.ntmps92
      go_wp2_with (first
        | (go_at_call 88; refine (take_any b k s _ 92 (by omega) (by omega) HR.out HS.out).mono ?_; rw [HT.out, HK.out]; rintro e w1 ⟨rfl, hr1, ha1⟩)
        | (go_at_call 93; refine (read_any b k s _ hr1 HS.out).mono ?_; rintro e w2 ⟨rfl, hr2, ha2⟩))
      go_ret2
      exact ⟨rfl, hr2, ha1.trans ha2⟩
    · have e : decide (32 ≤ pk s k) = false := by simpa using hc
      rw [e]
      go_enter Tryz.func92, Tryz.ntmps92
      go_wp2_with (first
        | (go_at_call 88; refine (take_any b k s _ 92 (by omega) (by omega) HR.out HS.out).mono ?_; rw [HT.out, HK.out]; rintro e w1 ⟨rfl, hr1, ha1⟩)
        | (go_at_call 93; refine (read_any b k s _ hr1 HS.out).mono ?_; rintro e w2 ⟨rfl, hr2, ha2⟩))
      go_ret2
      exact ⟨rfl, hr2, ha1.trans ha2⟩
  · have e1 : charC s k = escC (pk s (k + 1)) := by simp [charC, ht]
    have e2 : charTo s k = rdTo s (k + 1) := by simp [charTo, ht]
    have e3 : charOk s k = escOk (pk s (k + 1)) := by simp [charOk, ht]
    rw [e1, e2, e3]; clear e1 e2 e3
    have HT := Lib.hid ht
    have HK := Lib.hid (tkTo_yes ht)
    clear ht
    go_enter Tryz.func92, Tryz.ntmps92
    go_wp2_with (first
      | (go_at_call 88; refine (take_any b k s _ 92 (by omega) (by omega) HR.out HS.out).mono ?_; rw [HT.out, HK.out]; rintro e w1 ⟨rfl, hr1, ha1⟩)
      | (go_at_call 99; refine (escaped_any b (k + 1) s _ hr1 HS.out).mono ?_; rintro e w2 ⟨rfl, hr2, ha2⟩))
    go_ret2
    exact ⟨rfl, hr2, ha1.trans ha2⟩

def nameTo (s : ByteArray) (k : Nat) : Nat := if startsB (pk s k) then runTo inNameB s k else k
def nameOk (s : ByteArray) (k : Nat) : Bool := startsB (pk s k) && decide (runTo inNameB s k ≤ k + 24)
theorem runTo_le {p : Int → Bool} {s : ByteArray} {k : Nat} (h : k ≤ s.size) : runTo p s k ≤ s.size := by
  unfold runTo runLen
  have h1 := (List.takeWhile_sublist (fun c : UInt8 => p c.toNat) (l := s.data.toList.drop k)).length_le
  simp at h1
  omega
theorem le_runTo (p : Int → Bool) (s : ByteArray) (k : Nat) : k ≤ runTo p s k := by unfold runTo; omega
theorem name_any (h : Rd w b s k) (hk : k ≤ s.size) (hs : s.size ≤ maxLen) :
    Calls Tryz.prog 76 #[.pointer (some ⟨b, 0, none⟩)] w (Moved b s (nameTo s k) (.bool (nameOk s k)) w) := by
  have HS := Lib.hid hs
  have HR := Lib.hid h
  unfold maxLen at hs
  have q1 := pk_lo s k
  have q2 := pk_hi s k
  have h' := h
  obtain ⟨h0, h1, h2⟩ := h'
  clear h
  cases ht : startsB (pk s k)
  · have e1 : nameTo s k = k := by simp [nameTo, ht]
    have e2 : nameOk s k = false := by simp [nameOk, ht]
    rw [e1, e2]; clear e1 e2
    have HT := Lib.hid ht
    clear ht
    go_enter Tryz.func76, Tryz.ntmps76
    go_wp2_with (first
      | (go_at_call 34; refine (peek_any b k s _ HR.out HS.out).mono ?_; rintro e w1 ⟨rfl, n1, rfl⟩)
      | (go_at_call 62; refine (starts_any _ _ q1 q2).mono ?_; rw [HT.out]; rintro e w2 ⟨rfl, rfl⟩))
    go_ret
    exact ⟨rfl, HR.out.drewN _, Adv.drawn b w _⟩
  · have e1 : nameTo s k = runTo inNameB s k := by simp [nameTo, ht]
    have e2 : nameOk s k = decide (runTo inNameB s k ≤ k + 24) := by simp [nameOk, ht]
    rw [e1, e2]; clear e1 e2
    have HT := Lib.hid ht
    clear ht
    have r1 := le_runTo inNameB s k
    have r2 := runTo_le (p := inNameB) hk
    generalize hj : runTo inNameB s k = j at *
    have HJ := Lib.hid hj
    clear hj
    have hd : decide ((j : Int) - (k : Int) ≤ 24) = decide (j ≤ k + 24) := by rw [decide_eq_decide]; omega
    have HD := Lib.hid hd
    clear hd
    go_enter Tryz.func76, Tryz.ntmps76
    go_wp2_with (first
      | (go_at_call 34; refine (peek_any b k s _ HR.out HS.out).mono ?_; rintro e w1 ⟨rfl, n1, rfl⟩)
      | (go_at_call 62; refine (starts_any _ _ q1 q2).mono ?_; rw [HT.out]; rintro e w2 ⟨rfl, rfl⟩)
      | (go_at_call 35; refine (pass_inName b k s _ (by exact HR.out.drewN _) HS.out).mono ?_; rw [HJ.out]; rintro e w3 ⟨rfl, hr3, ha3⟩; have ha3' := Lib.hid ha3; clear ha3; have hr3' := hr3; obtain ⟨g0, g1, g2⟩ := hr3'))
    go_ret
    exact ⟨by rw [← HD.out]; rfl, hr3, (ha3'.out).drewL⟩

/-- A reference from behind its opening to its end. -/
def refOk (s : ByteArray) (k : Nat) : Bool :=
  nameOk s k && tkB s (nameTo s k) 46 && nameOk s (nameTo s k + 1)
def refMid (s : ByteArray) (k : Nat) : Nat :=
  if nameOk s k then (if tkB s (nameTo s k) 46 then nameTo s (nameTo s k + 1) else nameTo s k) else nameTo s k
def refTo (s : ByteArray) (k : Nat) : Nat := if refOk s k then tkTo s (refMid s k) 125 else refMid s k
def refB (s : ByteArray) (k : Nat) : Bool := refOk s k && tkB s (refMid s k) 125
theorem nameTo_le {s : ByteArray} {k : Nat} (h : k ≤ s.size) : nameTo s k ≤ s.size := by
  unfold nameTo; split
  · exact runTo_le h
  · exact h
theorem le_nameTo (s : ByteArray) (k : Nat) : k ≤ nameTo s k := by
  unfold nameTo; split
  · exact le_runTo _ _ _
  · exact Nat.le_refl _
theorem tkB_lt {s : ByteArray} {k : Nat} {c : Int} (h : tkB s k c = true) : k < s.size := by
  simp [tkB] at h; exact h.1
theorem len_ok {s : ByteArray} (h : s.size ≤ 6000) : s.size ≤ maxLen := by unfold maxLen; omega

/-- The three first steps of ref, step by step, and what each leaves. -/
theorem ref_any (h : Rd w b s k) (hk : k ≤ s.size) (hs : s.size ≤ 6000) :
    Calls Tryz.prog 90 #[.pointer (some ⟨b, 0, none⟩)] w (Moved b s (refTo s k) (.tuple #[.string (s.extract k (refMid s k)), .bool (refB s k)]) w) := by
  have HL := Lib.hid (len_ok hs)
  have H48 := Lib.hid (show s.size ≤ 281474976710656 by omega)
  have HR := Lib.hid h
  have hb := h.lt
  have HB := Lib.hid hb
  have n1 := le_nameTo s k
  have n2 := nameTo_le hk
  have h' := h
  obtain ⟨h0, h1, h2⟩ := h'
  cases c1 : nameOk s k
  · have e1 : refMid s k = nameTo s k := by simp [refMid, c1]
    have e2 : refOk s k = false := by simp [refOk, c1]
    have e3 : refTo s k = nameTo s k := by simp [refTo, e2, e1]
    have e4 : refB s k = false := by simp [refB, e2]
    rw [e3, e4, e1]
    have C1 := Lib.hid c1
    clear e1 e2 e3 e4 c1 h hb
    have N1 := Lib.hid n1
    have N2 := Lib.hid n2
    have HK := Lib.hid hk
    clear n1 n2 hk hs
    go_enter Tryz.func90, Tryz.ntmps90
    go_wp2_with fail
    refine (name_any b k s w HR.out HK.out HL.out).mono ?_
    rw [C1.out]
    rintro e w1 ⟨rfl, hr1, ha1⟩
    have R1 := Lib.hid hr1
    have A1 := Lib.hid ha1
    clear hr1 ha1
    go_wp2_with fail
    refine (since_any b (nameTo s k) s w1 k N1.out R1.out N2.out H48.out).mono ?_
    rintro e w2 ⟨rfl, hb2⟩
    have B2 := Lib.hid hb2
    clear hb2
    go_wp2_with fail
    go_ret2
    exact ⟨rfl, R1.out.below B2.out, A1.out.below HB.out B2.out⟩
  have C1 := Lib.hid c1
  cases c2 : tkB s (nameTo s k) 46
  · have e1 : refMid s k = nameTo s k := by simp [refMid, c1, c2]
    have e2 : refOk s k = false := by simp [refOk, c2]
    have e3 : refTo s k = nameTo s k := by simp [refTo, e2, e1]
    have e4 : refB s k = false := by simp [refB, e2]
    rw [e3, e4, e1]
    have C2 := Lib.hid c2
    have K2 := Lib.hid (tkTo_no c2)
    clear e1 e2 e3 e4 c1 c2
    clear h hb
    have N1 := Lib.hid n1
    have N2 := Lib.hid n2
    have HK := Lib.hid hk
    clear n1 n2 hk hs
    go_enter Tryz.func90, Tryz.ntmps90
    go_wp2_with fail
    refine (name_any b k s w HR.out HK.out HL.out).mono ?_
    rw [C1.out]
    rintro e w1 ⟨rfl, hr1, ha1⟩
    have R1 := Lib.hid hr1
    have A1 := Lib.hid ha1
    clear hr1 ha1
    go_wp2_with fail
    refine (take_any b (nameTo s k) s w1 46 (by omega) (by omega) R1.out HL.out).mono ?_
    rw [C2.out, K2.out]
    rintro e w2 ⟨rfl, hr2, ha2⟩
    have R2 := Lib.hid hr2
    have A2 := Lib.hid (A1.out.trans ha2)
    clear hr2 ha2
    go_wp2_with fail
    refine (since_any b (nameTo s k) s w2 k N1.out R2.out N2.out H48.out).mono ?_
    rintro e w4 ⟨rfl, hb4⟩
    have R4 := Lib.hid (R2.out.below hb4)
    have A4 := Lib.hid (A2.out.below HB.out hb4)
    clear hb4
    go_wp2_with fail
    go_ret2
    exact ⟨rfl, R4.out, A4.out⟩
  have C2 := Lib.hid c2
  have K2 := Lib.hid (tkTo_yes c2)
  have LT := Lib.hid (show nameTo s k + 1 ≤ s.size from tkB_lt c2)
  have e1 : refMid s k = nameTo s (nameTo s k + 1) := by simp [refMid, c1, c2]
  have E1 := Lib.hid e1
  have P1 := Lib.hid (show k ≤ nameTo s (nameTo s k + 1) from Nat.le_trans n1 (Nat.le_trans (Nat.le_succ _) (le_nameTo _ _)))
  have P2 := Lib.hid (nameTo_le LT.out)
  cases c3 : nameOk s (nameTo s k + 1)
  · have e2 : refOk s k = false := by simp [refOk, c3]
    have e3 : refTo s k = refMid s k := by simp [refTo, e2]
    have e4 : refB s k = false := by simp [refB, e2]
    rw [e3, e4, e1]
    have C3 := Lib.hid c3
    clear e1 e2 e3 e4 c1 c2 c3
    clear h hb
    have N1 := Lib.hid n1
    have N2 := Lib.hid n2
    have HK := Lib.hid hk
    clear n1 n2 hk hs
    go_enter Tryz.func90, Tryz.ntmps90
    go_wp2_with fail
    refine (name_any b k s w HR.out HK.out HL.out).mono ?_
    rw [C1.out]
    rintro e w1 ⟨rfl, hr1, ha1⟩
    have R1 := Lib.hid hr1
    have A1 := Lib.hid ha1
    clear hr1 ha1
    go_wp2_with fail
    refine (take_any b (nameTo s k) s w1 46 (by omega) (by omega) R1.out HL.out).mono ?_
    rw [C2.out, K2.out]
    rintro e w2 ⟨rfl, hr2, ha2⟩
    have R2 := Lib.hid hr2
    have A2 := Lib.hid (A1.out.trans ha2)
    clear hr2 ha2
    go_wp2_with fail
    refine (name_any b (nameTo s k + 1) s w2 R2.out LT.out HL.out).mono ?_
    rw [C3.out]
    rintro e w3 ⟨rfl, hr3, ha3⟩
    have R3 := Lib.hid hr3
    have A3 := Lib.hid (A2.out.trans ha3)
    clear hr3 ha3
    go_wp2_with fail
    refine (since_any b (nameTo s (nameTo s k + 1)) s w3 k P1.out R3.out P2.out H48.out).mono ?_
    rintro e w4 ⟨rfl, hb4⟩
    have R4 := Lib.hid (R3.out.below hb4)
    have A4 := Lib.hid (A3.out.below HB.out hb4)
    clear hb4
    go_wp2_with fail
    go_ret2
    exact ⟨rfl, R4.out, A4.out⟩
  have C3 := Lib.hid c3
  have e2 : refOk s k = true := by simp [refOk, c1, c2, c3]
  cases c4 : tkB s (refMid s k) 125
  · have e3 : refTo s k = tkTo s (refMid s k) 125 := by simp [refTo, e2]
    have e4 : refB s k = false := by simp [refB, c4]
    rw [e3, e4, tkTo_no c4]
    rw [e1] at c4 ⊢
    have C4 := Lib.hid c4
    have K4 := Lib.hid (tkTo_no c4)
    clear e1 e2 e3 e4 c1 c2 c3 c4
    clear h hb
    have N1 := Lib.hid n1
    have N2 := Lib.hid n2
    have HK := Lib.hid hk
    clear n1 n2 hk hs
    go_enter Tryz.func90, Tryz.ntmps90
    go_wp2_with fail
    refine (name_any b k s w HR.out HK.out HL.out).mono ?_
    rw [C1.out]
    rintro e w1 ⟨rfl, hr1, ha1⟩
    have R1 := Lib.hid hr1
    have A1 := Lib.hid ha1
    clear hr1 ha1
    go_wp2_with fail
    refine (take_any b (nameTo s k) s w1 46 (by omega) (by omega) R1.out HL.out).mono ?_
    rw [C2.out, K2.out]
    rintro e w2 ⟨rfl, hr2, ha2⟩
    have R2 := Lib.hid hr2
    have A2 := Lib.hid (A1.out.trans ha2)
    clear hr2 ha2
    go_wp2_with fail
    refine (name_any b (nameTo s k + 1) s w2 R2.out LT.out HL.out).mono ?_
    rw [C3.out]
    rintro e w3 ⟨rfl, hr3, ha3⟩
    have R3 := Lib.hid hr3
    have A3 := Lib.hid (A2.out.trans ha3)
    clear hr3 ha3
    go_wp2_with fail
    refine (since_any b (nameTo s (nameTo s k + 1)) s w3 k P1.out R3.out P2.out H48.out).mono ?_
    rintro e w4 ⟨rfl, hb4⟩
    have R4 := Lib.hid (R3.out.below hb4)
    have A4 := Lib.hid (A3.out.below HB.out hb4)
    clear hb4
    go_wp2_with fail
    refine (take_any b _ s w4 125 (by omega) (by omega) R4.out HL.out).mono ?_
    rw [C4.out, K4.out]
    rintro e w5 ⟨rfl, hr5, ha5⟩
    go_wp2_with fail
    go_ret2
    exact ⟨rfl, hr5, A4.out.trans ha5⟩
  · have e3 : refTo s k = tkTo s (refMid s k) 125 := by simp [refTo, e2]
    have e4 : refB s k = true := by simp [refB, e2, c4]
    rw [e3, e4, tkTo_yes c4]
    rw [e1] at c4 ⊢
    have C4 := Lib.hid c4
    have K4 := Lib.hid (tkTo_yes c4)
    clear e1 e2 e3 e4 c1 c2 c3 c4
    clear h hb
    have N1 := Lib.hid n1
    have N2 := Lib.hid n2
    have HK := Lib.hid hk
    clear n1 n2 hk hs
    go_enter Tryz.func90, Tryz.ntmps90
    go_wp2_with fail
    refine (name_any b k s w HR.out HK.out HL.out).mono ?_
    rw [C1.out]
    rintro e w1 ⟨rfl, hr1, ha1⟩
    have R1 := Lib.hid hr1
    have A1 := Lib.hid ha1
    clear hr1 ha1
    go_wp2_with fail
    refine (take_any b (nameTo s k) s w1 46 (by omega) (by omega) R1.out HL.out).mono ?_
    rw [C2.out, K2.out]
    rintro e w2 ⟨rfl, hr2, ha2⟩
    have R2 := Lib.hid hr2
    have A2 := Lib.hid (A1.out.trans ha2)
    clear hr2 ha2
    go_wp2_with fail
    refine (name_any b (nameTo s k + 1) s w2 R2.out LT.out HL.out).mono ?_
    rw [C3.out]
    rintro e w3 ⟨rfl, hr3, ha3⟩
    have R3 := Lib.hid hr3
    have A3 := Lib.hid (A2.out.trans ha3)
    clear hr3 ha3
    go_wp2_with fail
    refine (since_any b (nameTo s (nameTo s k + 1)) s w3 k P1.out R3.out P2.out H48.out).mono ?_
    rintro e w4 ⟨rfl, hb4⟩
    have R4 := Lib.hid (R3.out.below hb4)
    have A4 := Lib.hid (A3.out.below HB.out hb4)
    clear hb4
    go_wp2_with fail
    refine (take_any b _ s w4 125 (by omega) (by omega) R4.out HL.out).mono ?_
    rw [C4.out, K4.out]
    rintro e w5 ⟨rfl, hr5, ha5⟩
    go_wp2_with fail
    go_ret2
    exact ⟨rfl, hr5, A4.out.trans ha5⟩

/-- Where blanks and remarks end. -/
def skipAt (s : ByteArray) : Nat → Nat → Nat
  | 0, k => k
  | n + 1, k => if k < s.size then (if pk s k = 32 ∨ pk s k = 10 then skipAt s n (k + 1) else if pk s k = 35 then skipAt s n (runTo inLineB s k) else k) else k
theorem runTo_gt {p : Int → Bool} {s : ByteArray} {k : Nat} (hk : k < s.size) (hp : p (pk s k) = true) : k < runTo p s k := by
  rw [runTo_step hk hp]; have := le_runTo p s (k + 1); omega
theorem skipAt_more (s : ByteArray) : ∀ n m k, s.size - k ≤ n → s.size - k ≤ m → skipAt s n k = skipAt s m k := by
  intro n
  induction n with
  | zero =>
    intro m k h1 h2
    have : ¬ k < s.size := by omega
    cases m <;> simp [skipAt, this]
  | succ n ih =>
    intro m k h1 h2
    by_cases hk : k < s.size
    · obtain ⟨m, rfl⟩ : ∃ m', m = m' + 1 := ⟨m - 1, by omega⟩
      simp only [skipAt, hk, if_true]
      split
      · exact ih m (k + 1) (by omega) (by omega)
      · split
        · rename_i h
          have := runTo_gt (p := inLineB) hk (by rw [h]; decide)
          exact ih m _ (by omega) (by omega)
        · rfl
    · cases m <;> simp [skipAt, hk]
def skipTo (s : ByteArray) (k : Nat) : Nat := skipAt s s.size k
theorem skipTo_end {s : ByteArray} {k : Nat} (h : ¬ k < s.size) : skipTo s k = k := by
  unfold skipTo; cases s.size <;> simp [skipAt, h]
theorem skipTo_blank {s : ByteArray} {k : Nat} (h : k < s.size) (hc : pk s k = 32 ∨ pk s k = 10) : skipTo s k = skipTo s (k + 1) := by
  unfold skipTo
  rw [skipAt_more s s.size (s.size + 1) k (by omega) (by omega), skipAt, if_pos h, if_pos hc]
theorem skipTo_line {s : ByteArray} {k : Nat} (h : k < s.size) (hc : pk s k = 35) : skipTo s k = skipTo s (runTo inLineB s k) := by
  unfold skipTo
  rw [skipAt_more s s.size (s.size + 1) k (by omega) (by omega), skipAt, if_pos h, if_neg (by omega), if_pos hc]
theorem skipTo_stop {s : ByteArray} {k : Nat} (h : k < s.size) (h1 : pk s k ≠ 32) (h2 : pk s k ≠ 10) (h3 : pk s k ≠ 35) : skipTo s k = k := by
  unfold skipTo
  rw [skipAt_more s s.size (s.size + 1) k (by omega) (by omega), skipAt, if_pos h, if_neg (by omega), if_neg h3]

def SkipRel (b k : Nat) (s : ByteArray) (w : World) (m : Nat) (wr : World) : Prop :=
  ∃ j : Nat, s.size - j ≤ m ∧ j ≤ s.size ∧ skipTo s j = skipTo s k ∧ Rd wr b s j ∧ Adv b w wr
theorem skip_any (h : Rd w b s k) (hk : k ≤ s.size) (hs : s.size ≤ 6000) :
    Calls Tryz.prog 64 #[.pointer (some ⟨b, 0, none⟩)] w (Moved b s (skipTo s k) (.tuple #[]) w) := by
  have HL := Lib.hid (len_ok hs)
  have HR := Lib.hid h
  have HK := Lib.hid hk
  clear h hk
  have hs' : s.size ≤ 9223372036854775807 := by omega
  clear hs
  go_enter Tryz.func64, Tryz.ntmps64
  go_wp2_with fail
  go_loopg [] (s.size - k) (fun m wr => SkipRel b k s w m wr)
  case atStart => exact ⟨k, Nat.le_refl _, HK.out, rfl, HR.out, Adv.refl b w⟩
  case round =>
    obtain ⟨j, hm, hjs, he, hr, ha⟩ := hrel
    have HE := Lib.hid he
    have HM := Lib.hid hm
    have HA := Lib.hid ha
    have HJ := Lib.hid hjs
    have R := Lib.hid hr
    clear he hm ha hjs hr
    by_cases hj : j < s.size
    · have q1 := pk_lo s j
      have q2 := pk_hi s j
      have HD := Lib.hid hj
      by_cases c1 : pk s j = 32
      · have C := Lib.hid c1
        have SB := Lib.hid (skipTo_blank hj (.inl c1))
        clear c1 q1 q2 hj
        go_wp2_with fail
        refine (done_no b j s wr R.out HL.out HD.out).mono ?_
        rintro e w1 ⟨rfl, n1, rfl⟩
        go_wp2_with fail
        refine (peek_any b j s _ (by exact R.out.drewN _) HL.out).mono ?_
        rw [C.out]
        rintro e w2 ⟨rfl, n2, rfl⟩
        obtain ⟨g0, g1, g2⟩ := R.out
        have hj1 := HD.out
        go_wp2
        go_roundg (s.size - (j + 1))
        case rel => exact ⟨j + 1, Nat.le_refl _, HD.out, by rw [← SB.out]; exact HE.out, (R.out.drewN _).set (j + 1), HA.out.trans ((Adv.drawn b wr _).setCell _)⟩
        case measure => have := HM.out; omega
      by_cases c2 : pk s j = 10
      · have C := Lib.hid c2
        have SB := Lib.hid (skipTo_blank hj (.inr c2))
        clear c2 q1 q2 hj
        go_wp2_with fail
        refine (done_no b j s wr R.out HL.out HD.out).mono ?_
        rintro e w1 ⟨rfl, n1, rfl⟩
        go_wp2_with fail
        refine (peek_any b j s _ (by exact R.out.drewN _) HL.out).mono ?_
        rw [C.out]
        rintro e w2 ⟨rfl, n2, rfl⟩
        obtain ⟨g0, g1, g2⟩ := R.out
        have hj1 := HD.out
        go_wp2
        go_roundg (s.size - (j + 1))
        case rel => exact ⟨j + 1, Nat.le_refl _, HD.out, by rw [← SB.out]; exact HE.out, (R.out.drewN _).set (j + 1), HA.out.trans ((Adv.drawn b wr _).setCell _)⟩
        case measure => have := HM.out; omega
      by_cases c3 : pk s j = 35
      · have C := Lib.hid c3
        have SB := Lib.hid (skipTo_line hj c3)
        have GT := Lib.hid (runTo_gt (p := inLineB) hj (by rw [c3]; decide))
        have LE := Lib.hid (runTo_le (p := inLineB) HJ.out)
        clear c1 c2 c3 q1 q2 hj
        go_wp2_with fail
        refine (done_no b j s wr R.out HL.out HD.out).mono ?_
        rintro e w1 ⟨rfl, n1, rfl⟩
        go_wp2_with fail
        refine (peek_any b j s _ (by exact R.out.drewN _) HL.out).mono ?_
        rw [C.out]
        rintro e w2 ⟨rfl, n2, rfl⟩
        go_wp2_with fail
        refine (pass_inLine b j s _ (by exact R.out.drewN _) HL.out).mono ?_
        rintro e w3 ⟨rfl, hr3, ha3⟩
        have R3 := Lib.hid hr3
        have A3 := Lib.hid (HA.out.trans ha3.drewL)
        clear hr3 ha3
        go_wp2_with fail
        go_roundg (s.size - runTo inLineB s j)
        case rel => exact ⟨_, Nat.le_refl _, LE.out, by rw [← SB.out]; exact HE.out, R3.out, A3.out⟩
        case measure => have := HM.out; have := GT.out; have := HD.out; omega
      have SB := Lib.hid (skipTo_stop hj c1 c2 c3)
      generalize hc : pk s j = c at *
      have C := Lib.hid hc
      have g1 : (c == 32) = false := by simpa using c1
      have g2 : (c == 10) = false := by simpa using c2
      have g3 : (c == 35) = false := by simpa using c3
      clear c1 c2 c3 hj hc
      go_wp2_with fail
      refine (done_no b j s wr R.out HL.out HD.out).mono ?_
      rintro e w1 ⟨rfl, n1, rfl⟩
      go_wp2_with fail
      refine (peek_any b j s _ (by exact R.out.drewN _) HL.out).mono ?_
      rw [C.out]
      rintro e w2 ⟨rfl, n2, rfl⟩
      go_wp2_with fail
      go_end0
      refine ⟨rfl, ?_, HA.out.trans (Adv.drawn b wr _)⟩
      rw [← HE.out, SB.out]
      exact R.out.drewN _
    · have HD := Lib.hid hj
      go_wp2_with fail
      refine (done_yes b j s wr R.out HL.out HD.out).mono ?_
      rintro e w1 ⟨rfl, n1, rfl⟩
      go_wp2_with fail
      go_end0
      refine ⟨rfl, ?_, HA.out.trans (Adv.drawn b wr _)⟩
      rw [← HE.out, skipTo_end HD.out]
      exact R.out.drewN _
end
end Go.Proofs.YtlkdicabmikhkaaGreatDoor
