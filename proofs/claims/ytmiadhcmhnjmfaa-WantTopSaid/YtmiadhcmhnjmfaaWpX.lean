/- The library's symMerge: two rows in order merged. -/
import Derived.Test.YtmiadhcmhnjmfaaWpW
namespace Go.Proofs.Ytmiadhcmhnjmfaa
open Go.RowKit
set_option linter.unusedVariables false
set_option linter.unusedSimpArgs false
theorem rot_nought {α : Type} (f : Nat → α) (a b : Nat) (h : a ≤ b) : rotF f a a b = f := by
  funext k; unfold rotF
  split
  · congr 1 <;> omega
  · rw [if_neg (by omega)]
theorem rot_nought2 {α : Type} (f : Nat → α) (a b : Nat) : rotF f a b b = f := by
  funext k; unfold rotF
  rw [if_neg (by omega)]
  split
  · congr 1 <;> omega
  · rfl
theorem shl_step {α : Type} (f : Nat → α) (a k : Nat) (h : a ≤ k) : swF (rotF f a (a + 1) (k + 1)) k (k + 1) = rotF f a (a + 1) (k + 2) := by
  funext q
  unfold swF rotF
  by_cases c1 : q = k
  · subst c1
    rw [if_pos rfl, if_neg (by omega), if_neg (by omega), if_pos (by omega)]; congr 1 <;> omega
  · rw [if_neg c1]
    by_cases c2 : q = k + 1
    · subst c2
      rw [if_pos rfl, if_neg (by omega), if_pos (by omega), if_neg (by omega), if_pos (by omega)]; congr 1 <;> omega
    · rw [if_neg c2]
      by_cases c3 : a ≤ q ∧ q < a + (k + 1 - (a + 1))
      · rw [if_pos c3, if_pos (by omega)]
      · rw [if_neg c3, if_neg (by omega), if_neg (by omega), if_neg (by omega)]
theorem shr_step {α : Type} (f : Nat → α) (k m : Nat) (h : k < m) : swF (rotF f (k + 1) m (m + 1)) (k + 1) k = rotF f k m (m + 1) := by
  funext q
  unfold swF rotF
  by_cases c1 : q = k + 1
  · subst c1
    rw [if_pos rfl, if_neg (by omega), if_neg (by omega), if_neg (by omega), if_pos (by omega)]; congr 1 <;> omega
  · rw [if_neg c1]
    by_cases c2 : q = k
    · subst c2
      rw [if_pos rfl, if_pos (by omega), if_pos (by omega)]; congr 1 <;> omega
    · rw [if_neg c2]
      by_cases c3 : k + 1 + (m + 1 - m) ≤ q ∧ q < m + 1
      · rw [if_neg (by omega), if_pos c3, if_neg (by omega), if_pos (by omega)]
      · rw [if_neg (by omega), if_neg c3, if_neg (by omega), if_neg (by omega)]
section
variable (w : World)
set_option maxHeartbeats 16000000 in
set_option maxRecDepth 20000 in
theorem psym1 (g h n c : Nat) (f : Nat → W5 × Nat) (s : SrtAt w g h n f) (hn : n ≤ 1000) (a m b : Nat) (ham : m = a + 1) (hmb : m < b) (hb : b ≤ n) (s2 : SrtF ltD m b f) :
    Calls Try.prog 44 #[.iface 53 (.agg #[.slice (some ⟨g, 0, none⟩) n c, .slice (some ⟨h, 0, none⟩) n n]), .int .i64 a, .int .i64 m, .int .i64 b] w (PutIn g h n a b f w) := by
  have LS := Lib.hid (fun W f' (s' : SrtAt W g h n f') i j hi hj => plessD W g h n c f' s' hn i j hi hj)
  have SW := Lib.hid (fun W f' (s' : SrtAt W g h n f') i j hi hj hij => pswapD W g h n c f' s' hn i j hi hj hij)
  have ML := Lib.hid (dLess (.slice (some ⟨g, 0, none⟩) n c) (.slice (some ⟨h, 0, none⟩) n n))
  have MS := Lib.hid (dSwap (.slice (some ⟨g, 0, none⟩) n c) (.slice (some ⟨h, 0, none⟩) n n))
  have S0 := Lib.hid s
  clear s
  have H2 := Lib.hid s2
  have g0 : (m : Int) - (a : Int) = 1 := by omega
  have g1 : (((m : Int) - (a : Int)) == 1) = true := by simp; omega
  have HA := Lib.hid ham
  clear s2 ham
  go_enter Try.func44, Try.ntmps44
  go_wp2_with fail
  clear g0 g1
  go_loopg [8, 9] (b - m) (fun q iv jv wr => ∃ i j : Nat, iv = .int .i64 (i : Int) ∧ jv = .int .i64 (j : Int) ∧ m ≤ i ∧ i ≤ j ∧ j ≤ b ∧ j - i ≤ q ∧ KeepGH g h w wr ∧ SrtAt wr g h n f ∧ Hid (i = m ∨ ltD (f (i - 1)) (f a) = true) ∧ Hid (j = b ∨ ltD (f j) (f a) = false))
  case atStart => exact ⟨m, b, rfl, rfl, Nat.le_refl _, by omega, Nat.le_refl _, Nat.le_refl _, KeepGH.refl _ _ _, S0.out, Lib.hid (.inl rfl), Lib.hid (.inl rfl)⟩
  case round =>
    obtain ⟨i, j, rfl, rfl, hmi, hij, hjb, hq, hk, hs, CA, CB⟩ := hrel
    have HQ := Lib.hid hq
    have KR := Lib.hid hk
    have SR := Lib.hid hs
    clear hq hk hs
    by_cases hlt : i < j
    · obtain ⟨x, hx⟩ : ∃ x, x = (i + j) / 2 := ⟨_, rfl⟩
      have xe : ((i : Int) + (j : Int)) / 2 = (x : Int) := by omega
      have x0 : i ≤ x := by omega
      have x1 : x < j := by omega
      have XE := Lib.hid xe
      have LL := Lib.hid (LS.out wr f SR.out x a (by omega) (by have := HA.out; omega))
      have lm := ML.out wr
      obtain ⟨bb, hbb⟩ : ∃ bb, bb = ltD (f x) (f a) := ⟨_, rfl⟩
      rw [← hbb, ← xe] at LL
      have HBB := Lib.hid hbb
      clear hx hbb xe
      cases bb
      · have NB := Lib.hid (show x = b ∨ ltD (f x) (f a) = false from .inr HBB.out.symm)
        clear CB
        go_wp2_with fail
        with_reducible refine LL.out.mono ?_
        rintro e w2 ⟨rfl, h2⟩
        have S2 := Lib.hid (SR.out.below h2)
        have K2 := Lib.hid (KR.out.trans (KeepGH.of h2))
        clear h2 lm
        go_wp2_with fail
        go_roundg (x - i)
        case rel => exact ⟨i, x, rfl, by rw [XE.out], hmi, x0, by omega, Nat.le_refl _, K2.out, S2.out, CA, NB⟩
        case measure => have := HQ.out; omega
      · have NA := Lib.hid (show x + 1 = m ∨ ltD (f (x + 1 - 1)) (f a) = true from .inr HBB.out.symm)
        clear CA
        go_wp2_with fail
        with_reducible refine LL.out.mono ?_
        rintro e w2 ⟨rfl, h2⟩
        have S2 := Lib.hid (SR.out.below h2)
        have K2 := Lib.hid (KR.out.trans (KeepGH.of h2))
        clear h2 lm
        go_wp2_with fail
        go_roundg (j - (x + 1))
        case rel => exact ⟨x + 1, j, by rw [XE.out]; rfl, rfl, by omega, by omega, hjb, Nat.le_refl _, K2.out, S2.out, NA, CB⟩
        case measure => have := HQ.out; omega
    · have hji : j = i := by omega
      subst hji
      have FIN := Lib.hid (show SrtF ltD a b (rotF f a (a + 1) j) ∧ PermF a b f (rotF f a (a + 1) j) from by
        have hA := HA.out
        subst hA
        refine ⟨ins_left ordD H2.out hmi hjb CA.out CB.out, ?_⟩
        exact (PermF.rot (a := a) (b := j) (m := a + 1) (by omega) (by omega)).mono (Nat.le_refl _) hjb)
      have j1 : (1 : Int) ≤ (j : Int) := by have := HA.out; omega
      have ST := Lib.hid (show SrtAt wr g h n (rotF f a (a + 1) (a + 1)) by rw [rot_nought2]; exact SR.out)
      have KR1 := KR
      clear CA CB SR KR hlt hij HQ
      go_wp2_with fail
      go_loopg [11] (j - a) (fun q kv wr => ∃ k : Nat, kv = .int .i64 (k : Int) ∧ a ≤ k ∧ k + 1 ≤ j ∧ j - k ≤ q ∧ KeepGH g h w wr ∧ SrtAt wr g h n (rotF f a (a + 1) (k + 1)))
      case atStart => exact ⟨a, rfl, Nat.le_refl _, by have := HA.out; omega, Nat.le_refl _, KR1.out, ST.out⟩
      case round =>
        obtain ⟨k, rfl, hak, hkj, hq, hk, hs⟩ := hrel
        have HQ := Lib.hid hq
        have KR := Lib.hid hk
        have SR := Lib.hid hs
        clear hq hk hs
        by_cases hlt : k + 1 < j
        · have gk' : (k : Int) < (j : Int) - 1 := by omega
          have SL := Lib.hid (SW.out wr _ SR.out k (k + 1) (by omega) (by omega) (by omega))
          rw [shl_step f a k hak] at SL
          rw [show ((k + 1 : Nat) : Int) = (k : Int) + 1 from rfl] at SL
          have sm := MS.out wr
          go_wp2_with fail
          with_reducible refine SL.out.mono ?_
          rintro e w3 ⟨rfl, k3, s3⟩
          have K3 := Lib.hid (KR.out.trans k3)
          have S3 := Lib.hid s3
          clear k3 s3 sm
          go_wp2_with fail
          go_roundg (j - (k + 1))
          case rel => exact ⟨k + 1, by go_num, by omega, hlt, Nat.le_refl _, K3.out, S3.out⟩
          case measure => have := HQ.out; omega
        · have gk' : ¬ (k : Int) < (j : Int) - 1 := by omega
          have hke : k + 1 = j := by omega
          rw [hke] at SR
          go_wp2_with fail
          exact bodyPost_end (v := .tuple #[]) (by simp [results, Try.results44, go_sem]) rfl ⟨rfl, KR.out, _, SR.out, FIN.out.2, FIN.out.1⟩
set_option maxHeartbeats 16000000 in
set_option maxRecDepth 20000 in
theorem psym2 (g h n c : Nat) (f : Nat → W5 × Nat) (s : SrtAt w g h n f) (hn : n ≤ 1000) (a m b : Nat) (ham : a + 1 < m) (hmb : b = m + 1) (hb : b ≤ n) (s1 : SrtF ltD a m f) :
    Calls Try.prog 44 #[.iface 53 (.agg #[.slice (some ⟨g, 0, none⟩) n c, .slice (some ⟨h, 0, none⟩) n n]), .int .i64 a, .int .i64 m, .int .i64 b] w (PutIn g h n a b f w) := by
  have LS := Lib.hid (fun W f' (s' : SrtAt W g h n f') i j hi hj => plessD W g h n c f' s' hn i j hi hj)
  have SW := Lib.hid (fun W f' (s' : SrtAt W g h n f') i j hi hj hij => pswapD W g h n c f' s' hn i j hi hj hij)
  have ML := Lib.hid (dLess (.slice (some ⟨g, 0, none⟩) n c) (.slice (some ⟨h, 0, none⟩) n n))
  have MS := Lib.hid (dSwap (.slice (some ⟨g, 0, none⟩) n c) (.slice (some ⟨h, 0, none⟩) n n))
  have S0 := Lib.hid s
  clear s
  have H1 := Lib.hid s1
  have g1 : (((m : Int) - (a : Int)) == 1) = false := by simp; omega
  have g3 : (((b : Int) - (m : Int)) == 1) = true := by simp; omega
  have g4 : (b : Int) - (m : Int) = 1 := by omega
  have g5 : ¬ ((m : Int) - (a : Int) = 1) := by omega
  have HB := Lib.hid hmb
  have hm1000 : m ≤ 1000 := by omega
  clear s1 hmb
  go_enter Try.func44, Try.ntmps44
  go_wp2_with fail
  clear g1 g3 g4 g5
  go_loopg [12, 13] (m - a) (fun q iv jv wr => ∃ i j : Nat, iv = .int .i64 (i : Int) ∧ jv = .int .i64 (j : Int) ∧ a ≤ i ∧ i ≤ j ∧ j ≤ m ∧ j - i ≤ q ∧ KeepGH g h w wr ∧ SrtAt wr g h n f ∧ Hid (i = a ∨ ltD (f m) (f (i - 1)) = false) ∧ Hid (j = m ∨ ltD (f m) (f j) = true))
  case atStart => exact ⟨a, m, rfl, rfl, Nat.le_refl _, by omega, Nat.le_refl _, Nat.le_refl _, KeepGH.refl _ _ _, S0.out, Lib.hid (.inl rfl), Lib.hid (.inl rfl)⟩
  case round =>
    obtain ⟨i, j, rfl, rfl, hmi, hij, hjb, hq, hk, hs, CA, CB⟩ := hrel
    have HQ := Lib.hid hq
    have KR := Lib.hid hk
    have SR := Lib.hid hs
    clear hq hk hs
    by_cases hlt : i < j
    · obtain ⟨x, hx⟩ : ∃ x, x = (i + j) / 2 := ⟨_, rfl⟩
      have xe : ((i : Int) + (j : Int)) / 2 = (x : Int) := by omega
      have x0 : i ≤ x := by omega
      have x1 : x < j := by omega
      have XE := Lib.hid xe
      have LL := Lib.hid (LS.out wr f SR.out m x (by have := HB.out; omega) (by have := HB.out; omega))
      have lm := ML.out wr
      obtain ⟨bb, hbb⟩ : ∃ bb, bb = ltD (f m) (f x) := ⟨_, rfl⟩
      rw [← hbb, ← xe] at LL
      have HBB := Lib.hid hbb
      clear hx hbb xe
      cases bb
      · have NA := Lib.hid (show x + 1 = a ∨ ltD (f m) (f (x + 1 - 1)) = false from .inr HBB.out.symm)
        clear CA
        go_wp2_with fail
        with_reducible refine LL.out.mono ?_
        rintro e w2 ⟨rfl, h2⟩
        have S2 := Lib.hid (SR.out.below h2)
        have K2 := Lib.hid (KR.out.trans (KeepGH.of h2))
        clear h2 lm
        go_wp2_with fail
        go_roundg (j - (x + 1))
        case rel => exact ⟨x + 1, j, by rw [XE.out]; rfl, rfl, by omega, by omega, hjb, Nat.le_refl _, K2.out, S2.out, NA, CB⟩
        case measure => have := HQ.out; omega
      · have NB := Lib.hid (show x = m ∨ ltD (f m) (f x) = true from .inr HBB.out.symm)
        clear CB
        go_wp2_with fail
        with_reducible refine LL.out.mono ?_
        rintro e w2 ⟨rfl, h2⟩
        have S2 := Lib.hid (SR.out.below h2)
        have K2 := Lib.hid (KR.out.trans (KeepGH.of h2))
        clear h2 lm
        go_wp2_with fail
        go_roundg (x - i)
        case rel => exact ⟨i, x, rfl, by rw [XE.out], hmi, x0, by omega, Nat.le_refl _, K2.out, S2.out, CA, NB⟩
        case measure => have := HQ.out; omega
    · have hji : j = i := by omega
      subst hji
      have FIN := Lib.hid (show SrtF ltD a b (rotF f j m (m + 1)) ∧ PermF a b f (rotF f j m (m + 1)) from by
        have hB := HB.out
        subst hB
        refine ⟨ins_right ordD H1.out hmi hjb CA.out CB.out, ?_⟩
        exact (PermF.rot (a := j) (b := m + 1) (m := m) hjb (by omega)).mono hmi (Nat.le_refl _))
      have ST := Lib.hid (show SrtAt wr g h n (rotF f m m (m + 1)) by rw [rot_nought f m (m + 1) (by omega)]; exact SR.out)
      have KR1 := KR
      clear CA CB SR KR hlt hij HQ
      go_wp2_with fail
      go_loopg [15] (m - j) (fun q kv wr => ∃ k : Nat, kv = .int .i64 (k : Int) ∧ j ≤ k ∧ k ≤ m ∧ k - j ≤ q ∧ KeepGH g h w wr ∧ SrtAt wr g h n (rotF f k m (m + 1)))
      case atStart => exact ⟨m, rfl, hjb, Nat.le_refl _, Nat.le_refl _, KR1.out, ST.out⟩
      case round =>
        obtain ⟨k, rfl, hak, hkj, hq, hk, hs⟩ := hrel
        have HQ := Lib.hid hq
        have KR := Lib.hid hk
        have SR := Lib.hid hs
        clear hq hk hs
        by_cases hlt : j < k
        · obtain ⟨q, hq⟩ : ∃ q, k = q + 1 := ⟨k - 1, by omega⟩
          have gk' : (j : Int) < (k : Int) := by omega
          have qe : (q : Int) = (k : Int) - 1 := by omega
          have SL := Lib.hid (SW.out wr _ SR.out k q (by have := HB.out; omega) (by have := HB.out; omega) (by omega))
          have e1 : swF (rotF f k m (m + 1)) k q = rotF f q m (m + 1) := by subst hq; exact shr_step f q m (by omega)
          rw [e1, qe] at SL
          have sm := MS.out wr
          have QE := Lib.hid qe
          have HQ2 := Lib.hid hq
          clear qe hq e1
          go_wp2_with fail
          with_reducible refine SL.out.mono ?_
          rintro e w3 ⟨rfl, k3, s3⟩
          have K3 := Lib.hid (KR.out.trans k3)
          have S3 := Lib.hid s3
          clear k3 s3 sm
          go_wp2_with fail
          go_roundg (q - j)
          case rel => exact ⟨q, by rw [QE.out], by have := HQ2.out; omega, by have := HQ2.out; omega, Nat.le_refl _, K3.out, S3.out⟩
          case measure => have := HQ.out; have := HQ2.out; omega
        · have gk' : ¬ (j : Int) < (k : Int) := by omega
          have hke : k = j := by omega
          rw [hke] at SR
          go_wp2_with fail
          exact bodyPost_end (v := .tuple #[]) (by simp [results, Try.results44, go_sem]) rfl ⟨rfl, KR.out, _, SR.out, FIN.out.2, FIN.out.1⟩
end
end Go.Proofs.Ytmiadhcmhnjmfaa
