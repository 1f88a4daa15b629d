/- The law of strings, walked. -/
import Derived.Test.YtphpndmcfmicbaaDoorLexV
import Derived.Test.YtphpndmcfmicbaaDoorLexZ
import Derived.Test.YtphpndmcfmicbaaDoorLexY
namespace Go.Proofs.YtphpndmcfmicbaaDoor
open Go.RowKit
set_option linter.unusedVariables false
set_option linter.unusedSimpArgs false

theorem esc_snoc (a : List UInt8) (c : UInt8) : esc (a ++ [c]) = esc a ++ mk c := by simp [esc]
theorem lowL_snoc (a : List UInt8) (c : UInt8) : lowL (a ++ [c]) = (lowL a || lowC c) := by simp [lowL]
theorem take_one {s : ByteArray} {i : Nat} (hi : i < s.size) : s.data.toList.take (i + 1) = s.data.toList.take i ++ [s[i]] := by
  have hl : i < s.data.toList.length := by simpa using hi
  rw [List.take_add_one, List.getElem?_eq_getElem hl]
  rfl
theorem ext_one {s : ByteArray} {i : Nat} (hi : i < s.size) : (s.extract i (i + 1)).data.toList = [s[i]] := by
  apply List.ext_getElem
  · simp; omega
  · intro n h1 h2
    simp at h2
    subst h2
    simp; rfl
def StrRel (s : ByteArray) (w : World) (m : Nat) (qv lv iv : Value) (wr : World) : Prop :=
  ∃ (i : Nat) (qb : ByteArray) (lo : Bool), iv = .int .i64 (i : Nat) ∧ qv = .string qb ∧ lv = .bool lo ∧ s.size - i ≤ m ∧ i ≤ s.size ∧ qb.data.toList = esc (s.data.toList.take i) ∧ lo = lowL (s.data.toList.take i) ∧ wr = w
theorem str_step {s qb X : ByteArray} {i : Nat} (hi : i < s.size) (hq : qb.data.toList = esc (s.data.toList.take i)) (hX : X.data.toList = mk s[i]) : (qb ++ X).data.toList = esc (s.data.toList.take (i + 1)) := by
  rw [take_one hi, esc_snoc, ← hq, ← hX]; simp [ByteArray.data_append]
theorem low_step {s : ByteArray} {i : Nat} {lo : Bool} (hi : i < s.size) (hl : lo = lowL (s.data.toList.take i)) (b : Bool) (hb : b = (lo || lowC s[i])) : b = lowL (s.data.toList.take (i + 1)) := by
  rw [take_one hi, lowL_snoc, ← hl, hb]
theorem quoted_eq {qb : ByteArray} {l : List UInt8} (h : qb.data.toList = esc l) : ((⟨#[34]⟩ : ByteArray) ++ qb) ++ ⟨#[34]⟩ = quoted l := by
  apply ByteArray.ext
  apply Array.ext'
  simp [ByteArray.data_append, quoted, h]
theorem esc_size {qb : ByteArray} {l : List UInt8} (h : qb.data.toList = esc l) : qb.size ≤ 2 * l.length := by
  have h1 := esc_len l
  rw [← h] at h1
  simpa using h1
section
variable (s : ByteArray) (w : World)
set_option maxHeartbeats 4000000 in
set_option maxRecDepth 20000 in
theorem law_strings (hs : s.size ≤ maxLen) (hv : ErrVar w) : Calls Tryd.prog 6 #[.string s] w (Made (.bool true) w) := by
  have HL := Lib.hid hs
  have V := Lib.hid hv
  unfold maxLen at hs
  clear hv
  by_cases h1 : 300 < s.size
  · go_enter Tryd.func6, Tryd.ntmps6
    go_wp2_with fail
    refine (awake_any w V.out).mono ?_
    rintro e w1 ⟨rfl, hb1⟩
    have B1 := Lib.hid hb1
    clear hb1
    go_wp2_with fail
    go_ret
    exact ⟨rfl, B1.out⟩
  · have h3 : s.size ≤ 300 := by omega
    have hld : s.data.toList.length = s.size := by simp
    go_enter Tryd.func6, Tryd.ntmps6
    go_wp2_with fail
    go_loopg [3, 4, 5] s.size (fun m qv lv iv wr => StrRel s w m qv lv iv wr)
    case atStart => exact ⟨0, ⟨#[]⟩, false, rfl, rfl, rfl, Nat.le_refl _, Nat.zero_le _, rfl, rfl, rfl⟩
    case round =>
      obtain ⟨i, qb, lo, rfl, rfl, rfl, hm, hi, hq, hl, hw⟩ := hrel
      subst hw
      have HM := Lib.hid hm
      have HQ := Lib.hid hq
      have HLO := Lib.hid hl
      have hqs := esc_size hq
      rw [List.length_take, hld] at hqs
      have hqs : qb.size ≤ 600 := by omega
      clear hm hq hl hld
      by_cases hj : i < s.size
      · have hp := pk_in hj
        have q1 := pk_lo s i
        have q2 := pk_hi s i
        rw [hp] at q1 q2
        clear hp
        have X1 := Lib.hid (ext_one hj)
        have x1 : (s.extract i (i + 1)).size = 1 := by rw [size_extract' hj]; omega
        have y1 : (⟨#[92]⟩ : ByteArray).size = 1 := rfl
        have y2 : (⟨#[92, 110]⟩ : ByteArray).size = 2 := rfl
        by_cases a1 : (s[i].toNat : Int) = 34 ∨ (s[i].toNat : Int) = 92 ∨ (s[i].toNat : Int) = 36
        · have hc : s[i] = 34 ∨ s[i] = 92 ∨ s[i] = 36 := by
            rcases a1 with h | h | h
            · exact .inl (UInt8.toNat_inj.1 (by have : (34 : UInt8).toNat = 34 := rfl
                                                omega))
            · exact .inr (.inl (UInt8.toNat_inj.1 (by have : (92 : UInt8).toNat = 92 := rfl
                                                      omega)))
            · exact .inr (.inr (UInt8.toNat_inj.1 (by have : (36 : UInt8).toNat = 36 := rfl
                                                      omega)))
          have MK := Lib.hid (show mk s[i] = [92, s[i]] by simp [mk, hc])
          have LC := Lib.hid (show lowC s[i] = false by rcases hc with h | h | h <;> rw [h] <;> decide)
          have HJ := Lib.hid (show i < s.size ∧ True from ⟨hj, trivial⟩)
          have fin : ∀ X : ByteArray, X = ⟨#[92]⟩ ++ s.extract i (i + 1) → StrRel s wr (s.size - (i + 1)) (.string (qb ++ X)) (.bool lo) (.int .i64 ((i : Int) + 1)) wr := fun X hX =>
            ⟨i + 1, qb ++ X, lo, rfl, rfl, rfl, Nat.le_refl _, HJ.out.1, str_step HJ.out.1 HQ.out (by rw [MK.out, hX, ByteArray.data_append, Array.toList_append, X1.out]; rfl), low_step HJ.out.1 HLO.out _ (by rw [LC.out]; simp), rfl⟩
          have FIN := Lib.hid fin
          clear hc fin
          rcases a1 with a | a | a
          · have g1 : ((s[i].toNat : Int) == 34) = true := by simpa using a
            clear a
            go_wp2_with fail
            go_roundg (s.size - (i + 1))
            case rel => exact FIN.out _ rfl
            case measure => have := HM.out; omega
          · have g1 : ((s[i].toNat : Int) == 34) = false := by simp; omega
            have g2 : ((s[i].toNat : Int) == 92) = true := by simpa using a
            clear a
            go_wp2_with fail
            go_roundg (s.size - (i + 1))
            case rel => exact FIN.out _ rfl
            case measure => have := HM.out; omega
          · have g1 : ((s[i].toNat : Int) == 34) = false := by simp; omega
            have g2 : ((s[i].toNat : Int) == 92) = false := by simp; omega
            have g3 : ((s[i].toNat : Int) == 36) = true := by simpa using a
            clear a
            go_wp2_with fail
            go_roundg (s.size - (i + 1))
            case rel => exact FIN.out _ rfl
            case measure => have := HM.out; omega
        · have b1 : (s[i].toNat : Int) ≠ 34 := fun h => a1 (.inl h)
          have b2 : (s[i].toNat : Int) ≠ 92 := fun h => a1 (.inr (.inl h))
          have b3 : (s[i].toNat : Int) ≠ 36 := fun h => a1 (.inr (.inr h))
          have hc : ¬ (s[i] = 34 ∨ s[i] = 92 ∨ s[i] = 36) := by
            rintro (h | h | h) <;> rw [h] at b1 b2 b3 <;> simp at b1 b2 b3
          have g1 : ((s[i].toNat : Int) == 34) = false := by simpa using b1
          have g2 : ((s[i].toNat : Int) == 92) = false := by simpa using b2
          have g3 : ((s[i].toNat : Int) == 36) = false := by simpa using b3
          clear a1 b1 b2 b3
          by_cases a2 : (s[i].toNat : Int) = 10
          · have h10 : s[i] = 10 := UInt8.toNat_inj.1 (by have : (10 : UInt8).toNat = 10 := rfl
                                                          omega)
            have g4 : ((s[i].toNat : Int) == 10) = true := by simpa using a2
            have MK := Lib.hid (show mk s[i] = [92, 110] by rw [h10]; decide)
            have LC := Lib.hid (show lowC s[i] = false by rw [h10]; decide)
            have HJ := Lib.hid (show i < s.size ∧ True from ⟨hj, trivial⟩)
            clear h10 a2 hc
            go_wp2_with fail
            go_roundg (s.size - (i + 1))
            case rel => exact ⟨i + 1, _, lo, rfl, rfl, rfl, Nat.le_refl _, HJ.out.1, str_step HJ.out.1 HQ.out (by rw [MK.out]), low_step HJ.out.1 HLO.out _ (by rw [LC.out]; simp), rfl⟩
            case measure => have := HM.out; omega
          · have h10 : s[i] ≠ 10 := by
              intro h; rw [h] at a2; exact a2 rfl
            have g4 : ((s[i].toNat : Int) == 10) = false := by simpa using a2
            have MK := Lib.hid (show mk s[i] = [s[i]] by simp [mk, hc, h10])
            have LC := Lib.hid (show lowC s[i] = decide ((s[i].toNat : Int) < 32) by
              unfold lowC; rw [decide_eq_true h10, Bool.and_true, decide_eq_decide]; omega)
            clear h10 a2 hc
            cases lo
            · by_cases a3 : (s[i].toNat : Int) < 32
              · have L2 := Lib.hid (LC.out.trans (decide_eq_true a3))
                have HJ := Lib.hid (show i < s.size ∧ True from ⟨hj, trivial⟩)
                go_wp2_with fail
                go_roundg (s.size - (i + 1))
                case rel => exact ⟨i + 1, _, true, rfl, rfl, by simp [a3], Nat.le_refl _, HJ.out.1, str_step HJ.out.1 HQ.out (by rw [MK.out, X1.out]), low_step HJ.out.1 HLO.out _ (by rw [L2.out]; rfl), rfl⟩
                case measure => have := HM.out; omega
              · have L2 := Lib.hid (LC.out.trans (decide_eq_false a3))
                have HJ := Lib.hid (show i < s.size ∧ True from ⟨hj, trivial⟩)
                go_wp2_with fail
                go_roundg (s.size - (i + 1))
                case rel => exact ⟨i + 1, _, false, rfl, rfl, by first | (simp; done) | (simp; omega), Nat.le_refl _, HJ.out.1, str_step HJ.out.1 HQ.out (by rw [MK.out, X1.out]), low_step HJ.out.1 HLO.out _ (by rw [L2.out]; rfl), rfl⟩
                case measure => have := HM.out; omega
            · have HJ := Lib.hid (show i < s.size ∧ True from ⟨hj, trivial⟩)
              go_wp2_with fail
              go_roundg (s.size - (i + 1))
              case rel => exact ⟨i + 1, _, true, rfl, rfl, by simp, Nat.le_refl _, HJ.out.1, str_step HJ.out.1 HQ.out (by rw [MK.out, X1.out]), low_step HJ.out.1 HLO.out _ (by simp), rfl⟩
              case measure => have := HM.out; omega
      · have hie : i = s.size := by omega
        have hta : s.data.toList.take i = s.data.toList := by rw [hie, ← show s.data.toList.length = s.size by simp]; exact List.take_length
        have hq : qb.data.toList = esc s.data.toList := by rw [HQ.out, hta]
        have hlo : lo = lowL s.data.toList := by rw [HLO.out, hta]
        have QE := Lib.hid (quoted_eq hq)
        have hz : (quoted s.data.toList).size ≤ 602 := by
          rw [← QE.out]; simp only [ByteArray.size_append]
          have : (⟨#[34]⟩ : ByteArray).size = 1 := rfl
          omega
        obtain ⟨hlt, hlf⟩ := lex_quoted s.data.toList (by omega)
        have QS := Lib.hid (show (quoted s.data.toList).size ≤ maxLen by unfold maxLen; omega)
        have y34 : (⟨#[34]⟩ : ByteArray).size = 1 := rfl
        have WPE := Lib.hid (show s ≠ ⟨#[]⟩ → withPl [] s.data.toList = [(false, s)] from fun hne => by
          have h : s.data.toList ≠ [] := fun h => hne (by apply ByteArray.ext; apply Array.ext'; simpa using h)
          simp [withPl, h])
        generalize quoted s.data.toList = qt at *
        cases lo
        · obtain ⟨e1, e2⟩ := hlf hlo.symm
          have E1 := Lib.hid e1
          have E2 := Lib.hid e2
          clear hlt hlf hlo hq hta hie hz e1 e2
          by_cases hse : s = ⟨#[]⟩
          · subst hse
            have hw0 : withPl [] (⟨#[]⟩ : ByteArray).data.toList = [] := rfl
            rw [hw0] at E2
            clear WPE
            go_wp2_with fail
            rw [QE.out]
            refine (lex_rd qt wr QS.out V.out).mono ?_
            rw [LexRdPost.eq_def', E1.out, E2.out]
            rintro e w2 ⟨v, rfl, hb2, ht2⟩
            obtain ⟨g, o, cap, rfl, hc⟩ := ht2.cell (by simp)
            obtain ⟨pv, c0, c1, c2, c3, c4, c5⟩ := hc 0 (by simp)
            obtain ⟨pao, pcap, rfl⟩ := c5.len
            have B2 := Lib.hid hb2
            have V2 := Lib.hid (V.out.below hb2 V.out.lt)
            simp at c0 c3
            clear hb2 ht2 hc c5 c1 c2 c4
            go_wp2_with fail
            refine (num_any _ 0 (by omega) (by omega)).mono ?_
            rintro e w6 ⟨rfl, rfl⟩
            go_wp2_with fail
            refine (awake_any _ V2.out).mono ?_
            rintro e w6 ⟨rfl, hb6⟩
            have B6 := Lib.hid (B2.out.trans (hb6.mono B2.out.size))
            clear hb6
            go_wp2_with fail
            go_ret
            exact ⟨rfl, B6.out⟩
          · have hne : s.toList.isEmpty = false := by
              rw [ByteArray.toList_eq]; simp; intro e; exact hse (by apply ByteArray.ext; simpa using e)
            rw [WPE.out hse] at E2
            clear WPE hse
            go_wp2_with fail
            rw [QE.out]
            refine (lex_rd qt wr QS.out V.out).mono ?_
            rw [LexRdPost.eq_def', E1.out, E2.out]
            rintro e w2 ⟨v, rfl, hb2, ht2⟩
            obtain ⟨g, o, cap, rfl, hc⟩ := ht2.cell (by simp)
            obtain ⟨pv, c0, c1, c2, c3, c4, c5⟩ := hc 0 (by simp)
            obtain ⟨g2, o2, pcap, rfl, hc2⟩ := c5.cell (by simp)
            obtain ⟨p0, p1⟩ := hc2 0 (by simp)
            have B2 := Lib.hid hb2
            have V2 := Lib.hid (V.out.below hb2 V.out.lt)
            simp at c0 c3 p0 p1
            clear hb2 ht2 hc c5 c1 c2 c4 hc2
            go_wp2_with fail
            refine (num_any _ 0 (by omega) (by omega)).mono ?_
            rintro e w6 ⟨rfl, rfl⟩
            go_wp2_with fail
            refine (awake_any _ V2.out).mono ?_
            rintro e w6 ⟨rfl, hb6⟩
            have B6 := Lib.hid (B2.out.trans (hb6.mono B2.out.size))
            clear hb6
            go_wp2_with fail
            go_ret
            exact ⟨rfl, B6.out⟩
        · have E1 := Lib.hid (hlt hlo.symm)
          clear hlt hlf hlo hq hta hie hz WPE
          go_wp2_with fail
          rw [QE.out]
          refine (lex_rd qt wr QS.out V.out).mono ?_
          rw [LexRdPost.eq_def', E1.out]
          rintro e w2 ⟨v, rfl, hb2, ht2⟩
          have B2 := Lib.hid hb2
          have V2 := Lib.hid (V.out.below hb2 V.out.lt)
          clear hb2 ht2
          go_wp2_with fail
          refine (num_any _ 5 (by omega) (by omega)).mono ?_
          rintro e w6 ⟨rfl, rfl⟩
          go_wp2_with fail
          refine (awake_any _ V2.out).mono ?_
          rintro e w6 ⟨rfl, hb6⟩
          have B6 := Lib.hid (B2.out.trans (hb6.mono B2.out.size))
          clear hb6
          go_wp2_with fail
          go_ret
          exact ⟨rfl, B6.out⟩
end
end Go.Proofs.YtphpndmcfmicbaaDoor
