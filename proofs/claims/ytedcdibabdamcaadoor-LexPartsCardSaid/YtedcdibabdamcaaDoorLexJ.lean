/- Labels: lex.Label, the document's Label, and the law's walk. -/
import Derived.Test.YtedcdibabdamcaaDoorLexI
namespace Go.Proofs.YtedcdibabdamcaaDoor
open Go.RowKit
set_option linter.unusedVariables false
set_option linter.unusedSimpArgs false

def labelB (s : ByteArray) : Bool := letterB (pk s 0) && decide (s.size ≤ 24) && decide (runTo inLabelB s 0 = s.size)
section
variable (s : ByteArray) (w : World)
theorem rd_new (s : ByteArray) (w : World) : Rd (w.alloc (.cells #[.string s, .int .i64 0] 48)) w.heap.size s 0 := by
  have h : (w.alloc (.cells #[.string s, .int .i64 0] 48)).heap[w.heap.size]? = some (.cells #[.string s, .int .i64 0] 48 (0, 0)) := heap_alloc_new w _
  exact ⟨cell_of_row _ _ 0 _ _ _ h, cell_of_row _ _ 1 _ _ _ h, by unfold World.frozen?; rw [h]; rfl⟩
set_option maxRecDepth 20000 in
theorem label_any (hs : s.size ≤ maxLen) : Calls Tryd.prog 14 #[.string s] w (Made (.bool (labelB s)) w) := by
  have HL := Lib.hid hs
  unfold maxLen at hs
  have R0 := Lib.hid (rd_new s w)
  have B0 := Lib.hid (show Below w.heap.size w (w.alloc (.cells #[.string s, .int .i64 0] 48)) from (Below.refl _ _).alloc (Nat.le_refl _) _)
  have q1 := pk_lo s 0
  have q2 := pk_hi s 0
  cases c1 : letterB (pk s 0)
  · have e1 : labelB s = false := by simp [labelB, c1]
    have C1 := Lib.hid c1
    rw [e1]
    clear c1 e1
    go_enter Tryd.func14, Tryd.ntmps14
    go_wp2_with fail
    refine (peek_any w.heap.size 0 s _ R0.out HL.out).mono ?_
    rintro e w1 ⟨rfl, n1, rfl⟩
    go_wp2_with fail
    refine (letter_any _ _ q1 q2).mono ?_
    rw [C1.out]
    rintro e w2 ⟨rfl, rfl⟩
    go_wp2_with fail
    go_ret
    exact ⟨rfl, below_drewN B0.out n1⟩
  · have C1 := Lib.hid c1
    by_cases h24 : s.size ≤ 24
    · have e1 : labelB s = decide (runTo inLabelB s 0 = s.size) := by simp [labelB, c1, h24]
      rw [e1]
      have r2 := runTo_le (p := inLabelB) (Nat.zero_le s.size)
      generalize hj : runTo inLabelB s 0 = j at *
      have J := Lib.hid hj
      have e2 : decide (s.size ≤ j) = decide (j = s.size) := by rw [decide_eq_decide]; omega
      have E2 := Lib.hid e2
      clear c1 e1 e2 hj
      go_enter Tryd.func14, Tryd.ntmps14
      go_wp2_with fail
      refine (peek_any w.heap.size 0 s _ R0.out HL.out).mono ?_
      rintro e w1 ⟨rfl, n1, rfl⟩
      go_wp2_with fail
      refine (letter_any _ _ q1 q2).mono ?_
      rw [C1.out]
      rintro e w2 ⟨rfl, rfl⟩
      go_wp2_with fail
      refine (pass_inLabel w.heap.size 0 s _ (R0.out.drewN n1) HL.out).mono ?_
      rw [J.out]
      rintro e w3 ⟨rfl, hr3, ha3⟩
      have R3 := Lib.hid hr3
      have B3 := Lib.hid ((below_drewN B0.out n1).trans (ha3.to_below (Nat.le_refl _) (by have := B0.out.size; exact this)))
      clear hr3 ha3
      go_wp2_with fail
      refine (done_any w.heap.size j s w3 R3.out HL.out).mono ?_
      rintro e w4 ⟨rfl, n4, rfl⟩
      go_wp2_with fail
      go_ret
      exact ⟨by rw [← E2.out]; rfl, below_drewN B3.out n4⟩
    · have e1 : labelB s = false := by simp [labelB, h24]
      rw [e1]
      clear c1 e1
      go_enter Tryd.func14, Tryd.ntmps14
      go_wp2_with fail
      refine (peek_any w.heap.size 0 s _ R0.out HL.out).mono ?_
      rintro e w1 ⟨rfl, n1, rfl⟩
      go_wp2_with fail
      refine (letter_any _ _ q1 q2).mono ?_
      rw [C1.out]
      rintro e w2 ⟨rfl, rfl⟩
      go_wp2_with fail
      go_ret
      exact ⟨rfl, below_drewN B0.out n1⟩

/-! ### the document's -/
theorem rdigit_any (c : Int) (h0 : 0 ≤ c) (h1 : c ≤ 255) : Calls Tryd.prog 26 #[.int .u8 c] w fun e w' => e = .returned (.bool (digitB c)) ∧ w = w' := by
  by_cases h : 48 ≤ c
  · by_cases h2 : c ≤ 57 <;>
    · go_enter Tryd.func26, Tryd.ntmps26
      go_wp2
      go_ret
      exact ⟨by simp [digitB, h, h2], rfl⟩
  · go_enter Tryd.func26, Tryd.ntmps26
    go_wp2
    go_ret
    have e : digitB c = false := by simp [digitB]; omega
    exact ⟨by rw [e]; rfl, rfl⟩
/-- May this byte stand there in a label? -/
def labAt (s : ByteArray) (i : Nat) : Bool := letterB (pk s i) || (decide (0 < i) && (digitB (pk s i) || pk s i == 45 || pk s i == 95))
/-- From a place on: are all? -/
def labFrom (s : ByteArray) (i : Nat) : Bool := (List.range (s.size - i)).all fun j => labAt s (i + j)
def rlabelB (s : ByteArray) : Bool := labFrom s 0 && decide (1 ≤ s.size) && decide (s.size ≤ 24)
theorem labFrom_step {s : ByteArray} {i : Nat} (h : i < s.size) : labFrom s i = (labAt s i && labFrom s (i + 1)) := by
  unfold labFrom
  obtain ⟨m, hm⟩ : ∃ m, s.size - i = m + 1 := ⟨s.size - i - 1, by omega⟩
  have e : s.size - (i + 1) = m := by omega
  rw [hm, e, List.range_succ_eq_map, List.all_cons, List.all_map]
  congr 2
  funext j
  simp only [Function.comp]
  congr 1; omega
theorem labFrom_end {s : ByteArray} {i : Nat} (h : ¬ i < s.size) : labFrom s i = true := by
  unfold labFrom
  have e : s.size - i = 0 := by omega
  rw [e]; rfl
end
def LabRel (s : ByteArray) (w : World) (m : Nat) (v : Value) (wr : World) : Prop :=
  ∃ i : Nat, s.size - i ≤ m ∧ v = .int .i64 i ∧ i ≤ s.size ∧ labFrom s i = labFrom s 0
section
variable (s : ByteArray) (w : World)
set_option maxHeartbeats 4000000 in
set_option maxRecDepth 20000 in
theorem rlabel_any (hs : s.size ≤ maxLen) : Calls Tryd.prog 15 #[.string s] w (Quiet (.bool (rlabelB s)) w) := by
  unfold maxLen at hs
  go_enter Tryd.func15, Tryd.ntmps15
  go_wp2_with fail
  go_loop [3] (fun v => ∃ i : Nat, v = .int .i64 i ∧ i ≤ s.size ∧ Hid (labFrom s i = labFrom s 0)) (fun v => s.size - (intOf v).toNat)
  case atStart => exact ⟨0, rfl, Nat.zero_le _, rfl⟩
  case round =>
    obtain ⟨i, rfl, hi, HE⟩ := hrel
    by_cases hj : i < s.size
    · have hx := pk_in hj
      have q1 := pk_lo s i
      have q2 := pk_hi s i
      rw [hx] at q1 q2
      have hla : labAt s i = (letterB (s[i].toNat : Int) || (decide (0 < i) && (digitB (s[i].toNat : Int) || (s[i].toNat : Int) == 45 || (s[i].toNat : Int) == 95))) := by unfold labAt; rw [hx]
      have HLA := Lib.hid hla
      have HST := Lib.hid (labFrom_step hj)
      clear hx hla
      by_cases h1 : 97 ≤ (s[i].toNat : Int)
      · by_cases h2 : (s[i].toNat : Int) ≤ 122
        · have LT := Lib.hid (show letterB (s[i].toNat : Int) = true by simp [letterB, h1, h2])
          have NX := Lib.hid (show labFrom s (i + 1) = labFrom s 0 by rw [← HE.out, HST.out, show labAt s i = true by rw [HLA.out]; rw [LT.out]; simp]; rfl)
          go_wp2
          go_round
          case rel => exact ⟨i + 1, by go_num, hj, NX.out⟩
          case measure => simp [intOf]; omega
        · have LT := Lib.hid (show letterB (s[i].toNat : Int) = false by simp [letterB, h2])
          have g2 : decide ((s[i].toNat : Int) ≤ 122) = false := by simpa using h2
          by_cases hi0 : 0 < i
          · have hz : decide (0 < i) = true := by simpa using hi0
            cases hd : digitB (s[i].toNat : Int)
            · have DG := Lib.hid hd
              by_cases h45 : (s[i].toNat : Int) = 45
              · have g45 : ((s[i].toNat : Int) == 45) = true := by simpa using h45
                have G45 := Lib.hid g45
                clear hd h45
                have NX := Lib.hid (show labFrom s (i + 1) = labFrom s 0 by rw [← HE.out, HST.out, show labAt s i = true by rw [HLA.out]; rw [LT.out, DG.out, G45.out]; simp [hi0]]; rfl)
                go_wp2_with fail
                refine (rdigit_any _ (s[i].toNat : Int) q1 q2).mono ?_
                rw [DG.out]
                rintro e w1 ⟨rfl, rfl⟩
                go_wp2_with fail
                go_round
                case rel => exact ⟨i + 1, by go_num, hj, NX.out⟩
                case measure => simp [intOf]; omega
              · have g45 : ((s[i].toNat : Int) == 45) = false := by simpa using h45
                have G45 := Lib.hid g45
                by_cases h95 : (s[i].toNat : Int) = 95
                · have g95 : ((s[i].toNat : Int) == 95) = true := by simpa using h95
                  have G95 := Lib.hid g95
                  clear hd h45 h95
                  have NX := Lib.hid (show labFrom s (i + 1) = labFrom s 0 by rw [← HE.out, HST.out, show labAt s i = true by rw [HLA.out]; rw [LT.out, DG.out, G45.out, G95.out]; simp [hi0]]; rfl)
                  go_wp2_with fail
                  refine (rdigit_any _ (s[i].toNat : Int) q1 q2).mono ?_
                  rw [DG.out]
                  rintro e w1 ⟨rfl, rfl⟩
                  go_wp2_with fail
                  go_round
                  case rel => exact ⟨i + 1, by go_num, hj, NX.out⟩
                  case measure => simp [intOf]; omega
                · have g95 : ((s[i].toNat : Int) == 95) = false := by simpa using h95
                  have G95 := Lib.hid g95
                  clear hd h45 h95
                  have NX := Lib.hid (show rlabelB s = false by rw [rlabelB, ← HE.out, HST.out, show labAt s i = false by rw [HLA.out]; rw [LT.out, DG.out, G45.out, G95.out]; simp]; rfl)
                  go_wp2_with fail
                  refine (rdigit_any _ (s[i].toNat : Int) q1 q2).mono ?_
                  rw [DG.out]
                  rintro e w1 ⟨rfl, rfl⟩
                  go_wp2_with fail
                  go_ret
                  exact ⟨by rw [NX.out]; rfl, 0, rfl⟩
            · have DG := Lib.hid hd
              clear hd
              have NX := Lib.hid (show labFrom s (i + 1) = labFrom s 0 by rw [← HE.out, HST.out, show labAt s i = true by rw [HLA.out]; rw [LT.out, DG.out]; simp [hi0]]; rfl)
              go_wp2_with fail
              refine (rdigit_any _ (s[i].toNat : Int) q1 q2).mono ?_
              rw [DG.out]
              rintro e w1 ⟨rfl, rfl⟩
              go_wp2_with fail
              go_round
              case rel => exact ⟨i + 1, by go_num, hj, NX.out⟩
              case measure => simp [intOf]; omega
          · have hz : decide (0 < i) = false := by simpa using hi0
            have NX := Lib.hid (show rlabelB s = false by rw [rlabelB, ← HE.out, HST.out, show labAt s i = false by rw [HLA.out]; rw [LT.out, hz]; rfl]; rfl)
            go_wp2
            go_ret
            exact ⟨by rw [NX.out]; rfl, 0, rfl⟩
      · have LT := Lib.hid (show letterB (s[i].toNat : Int) = false by simp [letterB]; omega)
        by_cases hi0 : 0 < i
        · have hz : decide (0 < i) = true := by simpa using hi0
          cases hd : digitB (s[i].toNat : Int)
          · have DG := Lib.hid hd
            by_cases h45 : (s[i].toNat : Int) = 45
            · have g45 : ((s[i].toNat : Int) == 45) = true := by simpa using h45
              have G45 := Lib.hid g45
              clear hd h45
              have NX := Lib.hid (show labFrom s (i + 1) = labFrom s 0 by rw [← HE.out, HST.out, show labAt s i = true by rw [HLA.out]; rw [LT.out, DG.out, G45.out]; simp [hi0]]; rfl)
              go_wp2_with fail
              refine (rdigit_any _ (s[i].toNat : Int) q1 q2).mono ?_
              rw [DG.out]
              rintro e w1 ⟨rfl, rfl⟩
              go_wp2_with fail
              go_round
              case rel => exact ⟨i + 1, by go_num, hj, NX.out⟩
              case measure => simp [intOf]; omega
            · have g45 : ((s[i].toNat : Int) == 45) = false := by simpa using h45
              have G45 := Lib.hid g45
              by_cases h95 : (s[i].toNat : Int) = 95
              · have g95 : ((s[i].toNat : Int) == 95) = true := by simpa using h95
                have G95 := Lib.hid g95
                clear hd h45 h95
                have NX := Lib.hid (show labFrom s (i + 1) = labFrom s 0 by rw [← HE.out, HST.out, show labAt s i = true by rw [HLA.out]; rw [LT.out, DG.out, G45.out, G95.out]; simp [hi0]]; rfl)
                go_wp2_with fail
                refine (rdigit_any _ (s[i].toNat : Int) q1 q2).mono ?_
                rw [DG.out]
                rintro e w1 ⟨rfl, rfl⟩
                go_wp2_with fail
                go_round
                case rel => exact ⟨i + 1, by go_num, hj, NX.out⟩
                case measure => simp [intOf]; omega
              · have g95 : ((s[i].toNat : Int) == 95) = false := by simpa using h95
                have G95 := Lib.hid g95
                clear hd h45 h95
                have NX := Lib.hid (show rlabelB s = false by rw [rlabelB, ← HE.out, HST.out, show labAt s i = false by rw [HLA.out]; rw [LT.out, DG.out, G45.out, G95.out]; simp]; rfl)
                go_wp2_with fail
                refine (rdigit_any _ (s[i].toNat : Int) q1 q2).mono ?_
                rw [DG.out]
                rintro e w1 ⟨rfl, rfl⟩
                go_wp2_with fail
                go_ret
                exact ⟨by rw [NX.out]; rfl, 0, rfl⟩
          · have DG := Lib.hid hd
            clear hd
            have NX := Lib.hid (show labFrom s (i + 1) = labFrom s 0 by rw [← HE.out, HST.out, show labAt s i = true by rw [HLA.out]; rw [LT.out, DG.out]; simp [hi0]]; rfl)
            go_wp2_with fail
            refine (rdigit_any _ (s[i].toNat : Int) q1 q2).mono ?_
            rw [DG.out]
            rintro e w1 ⟨rfl, rfl⟩
            go_wp2_with fail
            go_round
            case rel => exact ⟨i + 1, by go_num, hj, NX.out⟩
            case measure => simp [intOf]; omega
        · have hz : decide (0 < i) = false := by simpa using hi0
          have NX := Lib.hid (show rlabelB s = false by rw [rlabelB, ← HE.out, HST.out, show labAt s i = false by rw [HLA.out]; rw [LT.out]; simp [hi0]]; rfl)
          go_wp2
          go_ret
          exact ⟨by rw [NX.out]; rfl, 0, rfl⟩
    · have FE := Lib.hid (show labFrom s 0 = true by rw [← HE.out]; exact labFrom_end hj)
      have e : i = s.size := by omega
      subst e
      by_cases h1 : 1 ≤ s.size
      · have hd1 : decide (1 ≤ s.size) = true := by simpa using h1
        by_cases h2 : s.size ≤ 24
        · have hd2 : decide ((s.size : Int) ≤ 24) = true := by simp; omega
          have RL := Lib.hid (show rlabelB s = true by rw [rlabelB, FE.out]; simp [h1, h2])
          go_wp2
          go_ret
          exact ⟨by rw [RL.out]; rfl, 0, rfl⟩
        · have hd2 : decide ((s.size : Int) ≤ 24) = false := by simp; omega
          have RL := Lib.hid (show rlabelB s = false by rw [rlabelB, FE.out]; simp [h2])
          go_wp2
          go_ret
          exact ⟨by rw [RL.out]; rfl, 0, rfl⟩
      · have hd1 : decide (1 ≤ s.size) = false := by simpa using h1
        have RL := Lib.hid (show rlabelB s = false by rw [rlabelB, FE.out]; simp [h1])
        go_wp2
        go_ret
        exact ⟨by rw [RL.out]; rfl, 0, rfl⟩
end

/-! ### they are one -/
theorem labAt_in {s : ByteArray} {i : Nat} : labAt s i = true → inLabelB (pk s i) = true := by
  unfold labAt inLabelB inNameB startsB
  intro h
  simp only [Bool.or_eq_true, Bool.and_eq_true] at h ⊢
  rcases h with h | ⟨_, (h | h) | h⟩
  · exact .inl (.inl (.inl h))
  · exact .inl (.inr h)
  · exact .inr h
  · exact .inl (.inl (.inr h))
theorem labAt_of {s : ByteArray} {i : Nat} (hi : 0 < i) : labAt s i = inLabelB (pk s i) := by
  unfold labAt inLabelB inNameB startsB
  rw [decide_eq_true hi]
  cases letterB (pk s i) <;> cases digitB (pk s i) <;> cases pk s i == 45 <;> cases pk s i == 95 <;> rfl
theorem labFrom_run {s : ByteArray} : ∀ n i, s.size - i = n → 0 < i → i ≤ s.size → labFrom s i = decide (runTo inLabelB s i = s.size) := by
  intro n
  induction n with
  | zero =>
    intro i hn hi hs
    have h : ¬ i < s.size := by omega
    rw [labFrom_end h, runTo_stop (fun h' => absurd h' h)]
    simp; omega
  | succ n ih =>
    intro i hn hi hs
    have h : i < s.size := by omega
    rw [labFrom_step h, labAt_of hi]
    cases hc : inLabelB (pk s i)
    · rw [runTo_stop (fun _ => hc)]
      simp; omega
    · rw [runTo_step h hc, ih (i + 1) (by omega) (by omega) (by omega)]; rfl
theorem label_same (s : ByteArray) : rlabelB s = labelB s := by
  unfold rlabelB labelB
  by_cases h0 : s.size = 0
  · have e : pk s 0 = 0 := by simp [pk, h0]
    rw [e, show letterB 0 = false by decide, show decide (1 ≤ s.size) = false by simp [h0]]; simp
  · have h : 0 < s.size := by omega
    rw [labFrom_step h, show decide (1 ≤ s.size) = true by simp; omega]
    have e : labAt s 0 = letterB (pk s 0) := by simp [labAt]
    rw [e]
    cases hl : letterB (pk s 0)
    · simp
    · have hc : inLabelB (pk s 0) = true := by simp [inLabelB, inNameB, startsB, hl]
      rw [runTo_step h hc, labFrom_run _ 1 rfl (by omega) (by omega)]
      cases decide (s.size ≤ 24) <;> simp
section
variable (s : ByteArray) (w : World)
set_option maxRecDepth 20000 in
theorem law_labels (hs : s.size ≤ maxLen) (hv : ErrVar w) : Calls Tryd.prog 4 #[.string s] w (Made (.bool true) w) := by
  have HL := Lib.hid hs
  have V := Lib.hid hv
  unfold maxLen at hs
  clear hv
  by_cases h : 300 < s.size
  · go_enter Tryd.func4, Tryd.ntmps4
    go_wp2
    go_ret
    exact ⟨rfl, Below.refl _ _⟩
  · have SAME := Lib.hid (label_same s)
    go_enter Tryd.func4, Tryd.ntmps4
    go_wp2_with fail
    refine (label_any s w HL.out).mono ?_
    rintro e w1 ⟨rfl, hb1⟩
    have B1 := Lib.hid hb1
    have V1 := Lib.hid (V.out.below hb1 V.out.lt)
    clear hb1
    go_wp2_with fail
    refine (rlabel_any s w1 HL.out).mono ?_
    rw [SAME.out]
    generalize labelB s = lb
    rintro e w2 ⟨rfl, n, rfl⟩
    go_wp2_with fail
    refine (awake_any (w1.drewN n) V1.out).mono ?_
    rintro e w3 ⟨rfl, hb3⟩
    have B3 := Lib.hid (B1.out.trans (below_drewL hb3 |>.mono B1.out.size))
    clear hb3
    go_wp2_with fail
    go_ret
    exact ⟨rfl, B3.out⟩
end
end Go.Proofs.YtedcdibabdamcaaDoor
