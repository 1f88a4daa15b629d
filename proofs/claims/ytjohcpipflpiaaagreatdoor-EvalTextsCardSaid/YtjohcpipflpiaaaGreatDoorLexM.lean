/- The document's reader of names and references: begins, nameEnd, Name, Dotted, reference, sign. -/
import Derived.Test.YtjohcpipflpiaaaGreatDoorLexI0
namespace Go.Proofs.YtjohcpipflpiaaaGreatDoor
open Go.RowKit
set_option linter.unusedVariables false
set_option linter.unusedSimpArgs false

section
variable (w : World)
theorem rdigit_any (c : Int) (h0 : 0 ≤ c) (h1 : c ≤ 255) : Calls Tryz.prog 44 #[.int .u8 c] w fun e w' => e = .returned (.bool (digitB c)) ∧ w = w' := by
  by_cases h : 48 ≤ c
  · by_cases h2 : c ≤ 57 <;>
    · go_enter Tryz.func44, Tryz.ntmps44
      go_wp2
      go_ret
      exact ⟨by simp [digitB, h, h2], rfl⟩
  · go_enter Tryz.func44, Tryz.ntmps44
    go_wp2
    go_ret
    have e : digitB c = false := by simp [digitB]; omega
    exact ⟨by rw [e]; rfl, rfl⟩
end
section
variable (w : World) (c : Int)
theorem rbegins_any (h0 : 0 ≤ c) (h1 : c ≤ 255) : Calls Tryz.prog 43 #[.int .u8 c] w fun e w' => e = .returned (.bool (startsB c)) ∧ w = w' := by
  by_cases h : 97 ≤ c
  · by_cases h2 : c ≤ 122
    · have e : startsB c = true := by simp [startsB, letterB, h, h2]
      rw [e]; clear e
      go_enter Tryz.func43, Tryz.ntmps43
      go_wp2
      go_ret
      exact ⟨rfl, rfl⟩
    · have e : startsB c = false := by simp [startsB, letterB, h2]; omega
      have g : (c == 95) = false := by simp; omega
      have g2 : decide (c ≤ 122) = false := by simpa using h2
      rw [e]; clear e
      go_enter Tryz.func43, Tryz.ntmps43
      go_wp2
      go_ret
      exact ⟨rfl, rfl⟩
  · have g1 : decide (97 ≤ c) = false := by simpa using h
    by_cases h3 : c = 95
    · have e : startsB c = true := by simp [startsB, h3]
      have g : (c == 95) = true := by simpa using h3
      rw [e]; clear e h3
      go_enter Tryz.func43, Tryz.ntmps43
      go_wp2
      go_ret
      exact ⟨by simp [go_sem], rfl⟩
    · have e : startsB c = false := by simp [startsB, letterB, h3]; omega
      have g : (c == 95) = false := by simpa using h3
      rw [e]; clear e h3
      go_enter Tryz.func43, Tryz.ntmps43
      go_wp2
      go_ret
      exact ⟨rfl, rfl⟩
end

section
variable (s : ByteArray) (w : World)
theorem nameTo_out {s : ByteArray} {i : Nat} (h : ¬ i < s.size) : nameTo s i = i := by
  have e : pk s i = 0 := by simp [pk, h]
  simp [nameTo, e, show startsB 0 = false by decide]
set_option maxHeartbeats 1000000 in
set_option maxRecDepth 20000 in
theorem nameEnd_any (i : Nat) (x : Int) (hx : x = i) (hs : s.size ≤ maxLen) (hi : i ≤ maxLen) :
    Calls Tryz.prog 26 #[.string s, .int .i64 x] w (Quiet (.int .i64 (nameTo s i)) w) := by
  subst hx
  unfold maxLen at hs hi
  by_cases hlt : i < s.size
  · have hd : decide (s.size ≤ i) = false := by simp; omega
    have hp := pk_in hlt
    have q1 := pk_lo s i
    have q2 := pk_hi s i
    rw [hp] at q1 q2
    cases hb : startsB (s[i].toNat : Int)
    · have e : nameTo s i = i := by simp [nameTo, hp, hb]
      have HB := Lib.hid hb
      rw [e]; clear e hb hp
      go_enter Tryz.func26, Tryz.ntmps26
      go_wp2_with fail
      refine (rbegins_any _ (s[i].toNat : Int) q1 q2).mono ?_
      rw [HB.out]
      rintro e w1 ⟨rfl, rfl⟩
      go_wp2_with fail
      go_ret
      exact ⟨rfl, 0, rfl⟩
    · have e : nameTo s i = runTo inNameB s i := by simp [nameTo, hp, hb]
      have HB := Lib.hid hb
      rw [e]; clear e hb hp
      go_enter Tryz.func26, Tryz.ntmps26
      go_wp2_with fail
      refine (rbegins_any _ (s[i].toNat : Int) q1 q2).mono ?_
      rw [HB.out]
      rintro e w1 ⟨rfl, rfl⟩
      clear q1 q2
      go_wp2_with fail
      go_loop [5] (fun v => ∃ j : Nat, v = .int .i64 j ∧ j ≤ s.size ∧ Hid (runTo inNameB s j = runTo inNameB s i)) (fun v => s.size - (intOf v).toNat)
      case atStart => exact ⟨i, rfl, Nat.le_of_lt hlt, rfl⟩
      case round =>
        obtain ⟨j, rfl, hj, HE⟩ := hrel
        clear HB
        by_cases hjl : j < s.size
        · have hp := pk_in hjl
          have q1 := pk_lo s j
          have q2 := pk_hi s j
          rw [hp] at q1 q2
          cases hb : startsB (s[j].toNat : Int)
          · have HB := Lib.hid hb
            cases hd : digitB (s[j].toNat : Int)
            · have HD := Lib.hid hd
              have ST := Lib.hid (show runTo inNameB s j = j from runTo_stop (fun _ => by rw [hp, inNameB, hb, hd]; rfl))
              clear hb hd hp
              go_wp2_with fail
              refine (rbegins_any _ (s[j].toNat : Int) q1 q2).mono ?_
              rw [HB.out]
              rintro e w1 ⟨rfl, rfl⟩
              go_wp2_with fail
              refine (rdigit_any _ (s[j].toNat : Int) q1 q2).mono ?_
              rw [HD.out]
              rintro e w1 ⟨rfl, rfl⟩
              go_wp2_with fail
              go_ret
              exact ⟨by rw [← HE.out, ST.out]; rfl, 0, rfl⟩
            · have HD := Lib.hid hd
              have ST := Lib.hid (runTo_step (p := inNameB) hjl (by rw [hp, inNameB, hd]; simp))
              clear hb hd hp
              go_wp2_with fail
              refine (rbegins_any _ (s[j].toNat : Int) q1 q2).mono ?_
              rw [HB.out]
              rintro e w1 ⟨rfl, rfl⟩
              go_wp2_with fail
              refine (rdigit_any _ (s[j].toNat : Int) q1 q2).mono ?_
              rw [HD.out]
              rintro e w1 ⟨rfl, rfl⟩
              go_wp2_with fail
              go_round
              case rel => exact ⟨j + 1, by go_num, hjl, ST.out.symm.trans HE.out⟩
              case measure => simp [intOf]; omega
          · have HB := Lib.hid hb
            have ST := Lib.hid (runTo_step (p := inNameB) hjl (by rw [hp, inNameB, hb]; rfl))
            clear hb hp
            go_wp2_with fail
            refine (rbegins_any _ (s[j].toNat : Int) q1 q2).mono ?_
            rw [HB.out]
            rintro e w1 ⟨rfl, rfl⟩
            go_wp2_with fail
            go_round
            case rel => exact ⟨j + 1, by go_num, hjl, ST.out.symm.trans HE.out⟩
            case measure => simp [intOf]; omega
        · have ST := Lib.hid (show runTo inNameB s j = j from runTo_stop (fun h => absurd h hjl))
          go_wp2_with fail
          go_ret
          exact ⟨by rw [← HE.out, ST.out]; rfl, 0, rfl⟩
  · have hd : decide (s.size ≤ i) = true := by simp; omega
    rw [nameTo_out hlt]
    go_enter Tryz.func26, Tryz.ntmps26
    go_wp2_with fail
    go_ret
    exact ⟨rfl, 0, rfl⟩

/-- Name. -/
def rnameB (s : ByteArray) : Bool := decide (s.size ≠ 0) && decide (s.size ≤ 24) && decide (nameTo s 0 = s.size)
set_option maxRecDepth 20000 in
theorem rname_any (hs : s.size ≤ maxLen) : Calls Tryz.prog 27 #[.string s] w (Quiet (.bool (rnameB s)) w) := by
  have HL := Lib.hid hs
  unfold maxLen at hs
  by_cases h0 : s.size = 0
  · have e : s = ⟨#[]⟩ := ByteArray.ext (Array.size_eq_zero_iff.1 h0)
    subst e
    have e : rnameB ⟨#[]⟩ = false := by decide
    rw [e]
    go_enter Tryz.func27, Tryz.ntmps27
    go_wp2_with fail
    go_ret
    exact ⟨rfl, 0, rfl⟩
  · have hne : s.toList.isEmpty = false := by
      rw [ByteArray.toList_eq]; simp; intro e; exact h0 (Array.size_eq_zero_iff.2 e)
    by_cases h24 : s.size ≤ 24
    · have hd2 : decide (s.size ≤ 24) = true := by simpa using h24
      have e : rnameB s = decide (nameTo s 0 = s.size) := by simp [rnameB, h0, h24]
      rw [e]
      have hi : ((nameTo s 0 : Int) == (s.size : Int)) = decide (nameTo s 0 = s.size) := by
        rw [Bool.eq_iff_iff, beq_iff_eq, decide_eq_true_iff]; omega
      have HI := Lib.hid hi
      clear hi e
      go_enter Tryz.func27, Tryz.ntmps27
      go_wp2_with fail
      refine (nameEnd_any s _ 0 _ (by rfl) HL.out (by unfold maxLen; omega)).mono ?_
      rintro e w1 ⟨rfl, n, rfl⟩
      go_wp2_with fail
      go_ret
      exact ⟨by rw [← HI.out]; rfl, n, rfl⟩
    · have e : rnameB s = false := by simp [rnameB, h24]
      rw [e]
      go_enter Tryz.func27, Tryz.ntmps27
      go_wp2_with fail
      go_ret
      exact ⟨rfl, 0, rfl⟩

/-- Dotted. -/
def rdotB (s : ByteArray) : Bool :=
  decide (0 < nameTo s 0) && decide (nameTo s 0 < s.size) && (pk s (nameTo s 0) == 46) && rnameB (s.extract 0 (nameTo s 0)) && rnameB (s.extract (nameTo s 0 + 1) s.size)
set_option maxHeartbeats 1000000 in
set_option maxRecDepth 20000 in
theorem rdot_any (hs : s.size ≤ maxLen) : Calls Tryz.prog 13 #[.string s] w (Quiet (.bool (rdotB s)) w) := by
  have HL := Lib.hid hs
  have E1 := Lib.hid (show rdotB s = (decide (0 < nameTo s 0) && decide (nameTo s 0 < s.size) && (pk s (nameTo s 0) == 46) && rnameB (s.extract 0 (nameTo s 0)) && rnameB (s.extract (nameTo s 0 + 1) s.size)) from rfl)
  unfold maxLen at hs
  have n1 := nameTo_le (Nat.zero_le s.size)
  generalize hk : nameTo s 0 = k at *
  have KK := Lib.hid hk
  clear hk
  by_cases h1 : 0 < k
  · by_cases h2 : k < s.size
    · have hp := pk_in h2
      cases h3 : (pk s k == 46)
      · have h3' : ((s[k].toNat : Int) == 46) = false := by rw [← hp]; exact h3
        have e : rdotB s = false := by rw [E1.out, h3]; simp
        have E := Lib.hid e
        clear h3 hp e
        go_enter Tryz.func13, Tryz.ntmps13
        go_wp2_with fail
        refine (nameEnd_any s _ 0 _ (by rfl) HL.out (by unfold maxLen; omega)).mono ?_
        rw [KK.out]
        rintro e w1 ⟨rfl, n, rfl⟩
        go_wp2_with fail
        go_ret
        exact ⟨by rw [E.out]; rfl, n, rfl⟩
      · have h3' : ((s[k].toNat : Int) == 46) = true := by rw [← hp]; exact h3
        have e : rdotB s = (rnameB (s.extract 0 k) && rnameB (s.extract (k + 1) s.size)) := by rw [E1.out, h3]; simp [h1, h2]
        have S1 := Lib.hid (show (s.extract 0 k).size ≤ maxLen by simp [ByteArray.size_extract]; unfold maxLen; omega)
        have S2 := Lib.hid (show (s.extract (k + 1) s.size).size ≤ maxLen by simp [ByteArray.size_extract]; unfold maxLen; omega)
        cases h4 : rnameB (s.extract 0 k)
        · rw [h4] at e
          have E := Lib.hid e
          have H4 := Lib.hid h4
          clear h3 hp e h4
          go_enter Tryz.func13, Tryz.ntmps13
          go_wp2_with fail
          refine (nameEnd_any s _ 0 _ (by rfl) HL.out (by unfold maxLen; omega)).mono ?_
          rw [KK.out]
          rintro e w1 ⟨rfl, n, rfl⟩
          go_wp2_with fail
          refine (rname_any (s.extract 0 k) _ S1.out).mono ?_
          rw [H4.out]
          rintro e w2 ⟨rfl, n2, rfl⟩
          go_wp2_with fail
          go_ret
          exact ⟨by rw [E.out]; rfl, _, rfl⟩
        · rw [h4] at e
          have E := Lib.hid e
          have H4 := Lib.hid h4
          clear h3 hp e h4
          go_enter Tryz.func13, Tryz.ntmps13
          go_wp2_with fail
          refine (nameEnd_any s _ 0 _ (by rfl) HL.out (by unfold maxLen; omega)).mono ?_
          rw [KK.out]
          rintro e w1 ⟨rfl, n, rfl⟩
          go_wp2_with fail
          refine (rname_any (s.extract 0 k) _ S1.out).mono ?_
          rw [H4.out]
          rintro e w2 ⟨rfl, n2, rfl⟩
          go_wp2_with fail
          refine (rname_any (s.extract (k + 1) s.size) _ S2.out).mono ?_
          rintro e w3 ⟨rfl, n3, rfl⟩
          go_wp2_with fail
          go_ret
          exact ⟨by rw [E.out]; rfl, _, rfl⟩
    · have e : rdotB s = false := by rw [E1.out]; simp [h2]
      have E := Lib.hid e
      clear e
      go_enter Tryz.func13, Tryz.ntmps13
      go_wp2_with fail
      refine (nameEnd_any s _ 0 _ (by rfl) HL.out (by unfold maxLen; omega)).mono ?_
      rw [KK.out]
      rintro e w1 ⟨rfl, n, rfl⟩
      go_wp2_with fail
      go_ret
      exact ⟨by rw [E.out]; rfl, n, rfl⟩
  · have e : rdotB s = false := by rw [E1.out]; simp [h1]
    have E := Lib.hid e
    clear e
    go_enter Tryz.func13, Tryz.ntmps13
    go_wp2_with fail
    refine (nameEnd_any s _ 0 _ (by rfl) HL.out (by unfold maxLen; omega)).mono ?_
    rw [KK.out]
    rintro e w1 ⟨rfl, n, rfl⟩
    go_wp2_with fail
    go_ret
    exact ⟨by rw [E.out]; rfl, n, rfl⟩

end
end Go.Proofs.YtjohcpipflpiaaaGreatDoor
