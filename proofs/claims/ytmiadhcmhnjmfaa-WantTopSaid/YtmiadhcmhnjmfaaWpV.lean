/- The library's insertionSort, swapRange, rotate over a list with its depths. -/
import Derived.Test.YtmiadhcmhnjmfaaWpU
namespace Go.Proofs.Ytmiadhcmhnjmfaa
open Go.RowKit
set_option linter.unusedVariables false
set_option linter.unusedSimpArgs false
theorem bl_asym : ∀ x y : List UInt8, Op.bytesLess x y = true → Op.bytesLess y x = false
  | [], [], h => by simp [Op.bytesLess] at h
  | [], b :: y, h => by simp [Op.bytesLess]
  | a :: x, [], h => by simp [Op.bytesLess] at h
  | a :: x, b :: y, h => by
    simp only [Op.bytesLess, Bool.or_eq_true, decide_eq_true_eq, Bool.and_eq_true, beq_iff_eq] at h
    simp only [Op.bytesLess, Bool.or_eq_false_iff, decide_eq_false_iff_not, Bool.and_eq_false_iff]
    rcases h with h | ⟨h1, h2⟩
    · have h3 := UInt8.lt_iff_toNat_lt.1 h
      refine ⟨fun h4 => ?_, .inl ?_⟩
      · have := UInt8.lt_iff_toNat_lt.1 h4; omega
      · simp only [beq_eq_false_iff_ne, ne_eq]
        rintro rfl; omega
    · subst h1
      refine ⟨fun h4 => ?_, .inr (bl_asym x y h2)⟩
      have := UInt8.lt_iff_toNat_lt.1 h4; omega
theorem bl_tot : ∀ x y : List UInt8, Op.bytesLess x y = false → Op.bytesLess y x = false → x = y
  | [], [], _, _ => rfl
  | [], b :: y, h, _ => by simp [Op.bytesLess] at h
  | a :: x, [], _, h => by simp [Op.bytesLess] at h
  | a :: x, b :: y, h, k => by
    simp only [Op.bytesLess, Bool.or_eq_false_iff, decide_eq_false_iff_not, Bool.and_eq_false_iff] at h k
    have e : a = b := by
      have h1 : ¬ a.toNat < b.toNat := fun h2 => h.1 (UInt8.lt_iff_toNat_lt.2 h2)
      have h3 : ¬ b.toNat < a.toNat := fun h2 => k.1 (UInt8.lt_iff_toNat_lt.2 h2)
      exact UInt8.toNat_inj.1 (by omega)
    subst e
    have h1 : Op.bytesLess x y = false := by rcases h.2 with h | h; simp at h; exact h
    have h2 : Op.bytesLess y x = false := by rcases k.2 with h | h; simp at h; exact h
    rw [bl_tot x y h1 h2]
theorem bl_le : ∀ x y z : List UInt8, Op.bytesLess y x = false → Op.bytesLess z y = false → Op.bytesLess z x = false
  | [], _, [], _, _ => by simp [Op.bytesLess]
  | [], _, c :: z, _, _ => by simp [Op.bytesLess]
  | a :: x, [], _, h, _ => by simp [Op.bytesLess] at h
  | a :: x, b :: y, [], _, h => by simp [Op.bytesLess] at h
  | a :: x, b :: y, c :: z, h, k => by
    simp only [Op.bytesLess, Bool.or_eq_false_iff, decide_eq_false_iff_not, Bool.and_eq_false_iff] at h k ⊢
    have h1 : ¬ b.toNat < a.toNat := fun h2 => h.1 (UInt8.lt_iff_toNat_lt.2 h2)
    have k1 : ¬ c.toNat < b.toNat := fun h2 => k.1 (UInt8.lt_iff_toNat_lt.2 h2)
    refine ⟨fun h2 => ?_, ?_⟩
    · have := UInt8.lt_iff_toNat_lt.1 h2; omega
    · by_cases e : c = a
      · subst e
        have e2 : b = c := UInt8.toNat_inj.1 (by omega)
        subst e2
        right
        have h2 : Op.bytesLess y x = false := by rcases h.2 with h | h; simp at h; exact h
        have k2 : Op.bytesLess z y = false := by rcases k.2 with h | h; simp at h; exact h
        exact bl_le x y z h2 k2
      · left; simpa using e
theorem ordD : OrdB ltD := by
  constructor
  · intro x y h
    unfold ltD at *
    by_cases e : x.2 = y.2
    · rw [if_pos e] at h; rw [if_pos e.symm]; exact bl_asym _ _ h
    · rw [if_neg e] at h; rw [if_neg (fun h => e h.symm)]
      simp only [decide_eq_true_eq] at h
      simp only [decide_eq_false_iff_not]; omega
  · intro x y z h k
    unfold ltD at *
    by_cases e1 : y.2 = x.2
    · rw [if_pos e1] at h
      by_cases e2 : z.2 = y.2
      · rw [if_pos e2] at k; rw [if_pos (e2.trans e1)]; exact bl_le _ _ _ h k
      · rw [if_neg e2] at k; rw [if_neg (fun e => e2 (e.trans e1.symm))]
        simp only [decide_eq_false_iff_not] at k ⊢; omega
    · rw [if_neg e1] at h
      simp only [decide_eq_false_iff_not] at h
      by_cases e2 : z.2 = y.2
      · rw [if_neg (by omega)]; simp only [decide_eq_false_iff_not]; omega
      · rw [if_neg e2] at k
        simp only [decide_eq_false_iff_not] at k
        rw [if_neg (by omega)]; simp only [decide_eq_false_iff_not]; omega
/-- What a call leaves that puts places from a to b in some order. -/
def PutIn (g h n a b : Nat) (f : Nat → W5 × Nat) (w : World) (e : Ending) (w' : World) : Prop := e = .returned (.tuple #[]) ∧ KeepGH g h w w' ∧ ∃ f', SrtAt w' g h n f' ∧ PermF a b f f' ∧ SrtF ltD a b f'
def InsRel (w : World) (g h n a b : Nat) (f : Nat → W5 × Nat) (m : Nat) (iv : Value) (wr : World) : Prop :=
  ∃ (i : Nat) (f' : Nat → W5 × Nat), iv = .int .i64 (i : Int) ∧ a + 1 ≤ i ∧ b - i ≤ m ∧ KeepGH g h w wr ∧ SrtAt wr g h n f' ∧ Hid (PermF a b f f') ∧ Hid (SrtF ltD a i f')
section
variable (w : World)
set_option maxHeartbeats 8000000 in
set_option maxRecDepth 20000 in
theorem pinsert (g h n c : Nat) (f : Nat → W5 × Nat) (s : SrtAt w g h n f) (hn : n ≤ 1000) (a b : Nat) (hab : a ≤ b) (hb : b ≤ n) :
    Calls Try.prog 43 #[.iface 53 (.agg #[.slice (some ⟨g, 0, none⟩) n c, .slice (some ⟨h, 0, none⟩) n n]), .int .i64 a, .int .i64 b] w (PutIn g h n a b f w) := by
  have LS := Lib.hid (fun W f' (s' : SrtAt W g h n f') i j hi hj => plessD W g h n c f' s' hn i j hi hj)
  have SW := Lib.hid (fun W f' (s' : SrtAt W g h n f') i j hi hj hij => pswapD W g h n c f' s' hn i j hi hj hij)
  have ML := Lib.hid (dLess (.slice (some ⟨g, 0, none⟩) n c) (.slice (some ⟨h, 0, none⟩) n n))
  have MS := Lib.hid (dSwap (.slice (some ⟨g, 0, none⟩) n c) (.slice (some ⟨h, 0, none⟩) n n))
  have S0 := Lib.hid s
  clear s
  go_enter Try.func43, Try.ntmps43
  go_wp2_with fail
  go_loopg [6] (b - (a + 1)) (fun m iv wr => InsRel w g h n a b f m iv wr)
  case atStart => exact ⟨a + 1, f, by go_num, Nat.le_refl _, Nat.le_refl _, KeepGH.refl _ _ _, S0.out, Lib.hid (PermF.refl _ _ _), Lib.hid (SrtF.one _ _ (Nat.le_refl _))⟩
  case round =>
    obtain ⟨i, f', rfl, hai, hm, hk, hs, PF, SF⟩ := hrel
    have HM := Lib.hid hm
    have KR := Lib.hid hk
    have SR := Lib.hid hs
    clear hm hk hs
    by_cases hlt : i < b
    · go_wp2_with fail
      have I0 := Lib.hid (InsF.start SF.out)
      have PF0 := PF
      clear PF SF
      go_loopg [7] i (fun m jv ws => ∃ (j : Nat) (f'' : Nat → W5 × Nat), jv = .int .i64 (j : Int) ∧ a ≤ j ∧ j ≤ i ∧ j ≤ m ∧ KeepGH g h w ws ∧ SrtAt ws g h n f'' ∧ Hid (PermF a b f f'') ∧ Hid (InsF ltD a i j f''))
      case atStart => exact ⟨i, f', rfl, by omega, Nat.le_refl _, Nat.le_refl _, KR.out, SR.out, PF0, I0⟩
      case round =>
        obtain ⟨j, f'', rfl, haj, hji, hm2, hk2, hs2, PF, IF⟩ := hrel
        have HM2 := Lib.hid hm2
        have KS := Lib.hid hk2
        have SS := Lib.hid hs2
        clear hm2 hk2 hs2
        by_cases hj0 : a < j
        · obtain ⟨q, hq⟩ : ∃ q, j = q + 1 := ⟨j - 1, by omega⟩
          have HQ := Lib.hid hq
          have qe : (q : Int) = (j : Int) - 1 := by omega
          have LL := Lib.hid (LS.out wr f'' SS.out j q (by omega) (by omega))
          have lm := ML.out wr
          have gj : (a : Int) < (j : Int) := by omega
          obtain ⟨bb, hbb⟩ : ∃ bb, bb = ltD (f'' j) (f'' q) := ⟨_, rfl⟩
          rw [← hbb, qe] at LL
          have HBB := Lib.hid hbb
          have QE := Lib.hid qe
          clear hq hbb qe
          cases bb
          · have DN := Lib.hid (show InsRel w g h n a b f (b - (i + 1)) (.int .i64 ((i + 1 : Nat) : Int)) wr → InsRel w g h n a b f (b - (i + 1)) (.int .i64 ((i + 1 : Nat) : Int)) wr from id)
            have SN := Lib.hid (IF.out.done ordD hji (.inr ⟨hj0, by rw [show j - 1 = q by have := HQ.out; omega]; exact HBB.out.symm⟩))
            clear IF
            go_wp2_with fail
            with_reducible refine LL.out.mono ?_
            rintro e w2 ⟨rfl, h2⟩
            have S2 := Lib.hid (SS.out.below h2)
            have K2 := Lib.hid (KS.out.trans (KeepGH.of h2))
            clear h2 lm
            go_wp2_with fail
            go_roundg (b - (i + 1))
            case rel => exact ⟨i + 1, f'', by go_num, by omega, Nat.le_refl _, K2.out, S2.out, PF, SN⟩
            case measure => have := HM.out; omega
          · have NI := Lib.hid (show InsF ltD a i q (swF f'' j q) from by
              have h1 := IF.out
              have h2 := HQ.out
              subst h2
              exact h1.step ordD (by omega) hji HBB.out.symm)
            have NP := Lib.hid (PF.out.trans (PermF.sw (i := j) (j := q) (by omega) (by have := HQ.out; omega)))
            clear IF PF
            go_wp2_with fail
            with_reducible refine LL.out.mono ?_
            rintro e w2 ⟨rfl, h2⟩
            have S2 := Lib.hid (SS.out.below h2)
            have K2 := Lib.hid (KS.out.trans (KeepGH.of h2))
            have SL := Lib.hid (SW.out w2 f'' S2.out j q (by omega) (by have := HQ.out; omega) (by have := HQ.out; omega))
            have sm := MS.out w2
            rw [QE.out] at SL
            clear h2 lm
            go_wp2_with fail
            with_reducible refine SL.out.mono ?_
            rintro e w3 ⟨rfl, k3, s3⟩
            have K3 := Lib.hid (K2.out.trans k3)
            have S3 := Lib.hid s3
            clear k3 s3 sm
            go_wp2_with fail
            go_roundg q
            case rel => exact ⟨q, swF f'' j q, by have := QE.out; simp only [Value.int.injEq, true_and]; omega, by have := HQ.out; omega, by have := HQ.out; omega, Nat.le_refl _, K3.out, S3.out, NP, NI⟩
            case measure => have := HM2.out; have := HQ.out; omega
        · have hja : j = a := by omega
          have gj : ¬ (a : Int) < (j : Int) := by omega
          have SN := Lib.hid (IF.out.done ordD hji (.inl hja))
          clear IF
          go_wp2_with fail
          go_roundg (b - (i + 1))
          case rel => exact ⟨i + 1, f'', by go_num, by omega, Nat.le_refl _, KS.out, SS.out, PF, SN⟩
          case measure => have := HM.out; omega
    · have SN := Lib.hid (SF.out.sub (Nat.le_refl a) (show b ≤ i by omega))
      go_wp2_with fail
      exact bodyPost_end (v := .tuple #[]) (by simp [results, Try.results43, go_sem]) rfl ⟨rfl, KR.out, f', SR.out, PF.out, SN.out⟩
end
end Go.Proofs.Ytmiadhcmhnjmfaa
