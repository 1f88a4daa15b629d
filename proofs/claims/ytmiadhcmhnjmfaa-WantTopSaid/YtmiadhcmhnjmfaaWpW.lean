/- The library's swapRange, rotate. -/
import Derived.Test.YtmiadhcmhnjmfaaWpV
namespace Go.Proofs.Ytmiadhcmhnjmfaa
open Go.RowKit
set_option linter.unusedVariables false
set_option linter.unusedSimpArgs false
section
variable (w : World)
set_option maxHeartbeats 4000000 in
set_option maxRecDepth 20000 in
theorem pswapRange (g h n c : Nat) (f : Nat → W5 × Nat) (s : SrtAt w g h n f) (hn : n ≤ 1000) (a b k : Nat) (hab : a + k ≤ b) (hb : b + k ≤ n) :
    Calls Try.prog 46 #[.iface 53 (.agg #[.slice (some ⟨g, 0, none⟩) n c, .slice (some ⟨h, 0, none⟩) n n]), .int .i64 a, .int .i64 b, .int .i64 k] w fun e w' => e = .returned (.tuple #[]) ∧ KeepGH g h w w' ∧ SrtAt w' g h n (srF f a b k) := by
  have SW := Lib.hid (fun W f' (s' : SrtAt W g h n f') i j hi hj hij => pswapD W g h n c f' s' hn i j hi hj hij)
  have MS := Lib.hid (dSwap (.slice (some ⟨g, 0, none⟩) n c) (.slice (some ⟨h, 0, none⟩) n n))
  have S0 := Lib.hid s
  clear s
  go_enter Try.func46, Try.ntmps46
  go_wp2_with fail
  go_loopg [8] k (fun m iv wr => ∃ i : Nat, iv = .int .i64 (i : Int) ∧ i ≤ k ∧ k - i ≤ m ∧ KeepGH g h w wr ∧ SrtAt wr g h n (srF f a b i))
  case atStart => exact ⟨0, rfl, Nat.zero_le _, Nat.le_refl _, KeepGH.refl _ _ _, by rw [srF_zero]; exact S0.out⟩
  case round =>
    obtain ⟨i, rfl, hik, hm, hk, hs⟩ := hrel
    have HM := Lib.hid hm
    have KR := Lib.hid hk
    have SR := Lib.hid hs
    clear hm hk hs
    by_cases hlt : i < k
    · have SL := Lib.hid (SW.out wr (srF f a b i) SR.out (a + i) (b + i) (by omega) (by omega) (by omega))
      rw [srF_step f a b i (by omega)] at SL
      have e1 : ((a + i : Nat) : Int) = (a : Int) + (i : Int) := by omega
      have e2 : ((b + i : Nat) : Int) = (b : Int) + (i : Int) := by omega
      rw [e1, e2] at SL
      have sm := MS.out wr
      clear e1 e2
      go_wp2_with fail
      with_reducible refine SL.out.mono ?_
      rintro e w3 ⟨rfl, k3, s3⟩
      have K3 := Lib.hid (KR.out.trans k3)
      have S3 := Lib.hid s3
      clear k3 s3 sm
      go_wp2_with fail
      go_roundg (k - (i + 1))
      case rel => exact ⟨i + 1, by go_num, hlt, Nat.le_refl _, K3.out, S3.out⟩
      case measure => have := HM.out; omega
    · obtain rfl : i = k := by omega
      go_wp2_with fail
      exact bodyPost_end (v := .tuple #[]) (by simp [results, Try.results46, go_sem]) rfl ⟨rfl, KR.out, SR.out⟩
set_option maxHeartbeats 4000000 in
set_option maxRecDepth 20000 in
theorem protate (g h n c : Nat) (f : Nat → W5 × Nat) (s : SrtAt w g h n f) (hn : n ≤ 1000) (a m b : Nat) (ham : a < m) (hmb : m < b) (hb : b ≤ n) :
    Calls Try.prog 45 #[.iface 53 (.agg #[.slice (some ⟨g, 0, none⟩) n c, .slice (some ⟨h, 0, none⟩) n n]), .int .i64 a, .int .i64 m, .int .i64 b] w fun e w' => e = .returned (.tuple #[]) ∧ KeepGH g h w w' ∧ SrtAt w' g h n (rotF f a m b) := by
  have SR := Lib.hid (fun W f' (s' : SrtAt W g h n f') x y k h1 h2 => pswapRange W g h n c f' s' hn x y k h1 h2)
  have S0 := Lib.hid s
  clear s
  obtain ⟨i0, hi0⟩ : ∃ i0, m = a + i0 := ⟨m - a, by omega⟩
  obtain ⟨j0, hj0⟩ : ∃ j0, b = m + j0 := ⟨b - m, by omega⟩
  have R0 := Lib.hid (show rotF f (m - i0) m (m + j0) = rotF f a m b by rw [show m - i0 = a by omega, ← hj0])
  have x0 : (m : Int) - (a : Int) = (i0 : Int) := by omega
  have x1 : (b : Int) - (m : Int) = (j0 : Int) := by omega
  have X0 := Lib.hid x0
  have X1 := Lib.hid x1
  have HI := Lib.hid hi0
  have HJ := Lib.hid hj0
  clear x0 x1 hi0 hj0
  go_enter Try.func45, Try.ntmps45
  go_wp2_with fail
  rw [X0.out, X1.out]
  go_loopg [8, 9] (i0 + j0) (fun q iv jv wr => ∃ (i j : Nat) (f' : Nat → W5 × Nat), iv = .int .i64 (i : Int) ∧ jv = .int .i64 (j : Int) ∧ 0 < i ∧ 0 < j ∧ i ≤ m ∧ m + j ≤ n ∧ i + j ≤ q ∧ KeepGH g h w wr ∧ SrtAt wr g h n f' ∧ Hid (rotF f' (m - i) m (m + j) = rotF f a m b))
  case atStart => exact ⟨i0, j0, f, rfl, rfl, by have := HI.out; omega, by have := HJ.out; omega, by have := HI.out; omega, by have := HJ.out; omega, Nat.le_refl _, KeepGH.refl _ _ _, S0.out, R0⟩
  case round =>
    obtain ⟨i, j, f', rfl, rfl, hi, hj, him, hjn, hq, hk, hs, RO⟩ := hrel
    have HQ := Lib.hid hq
    have KR := Lib.hid hk
    have SS := Lib.hid hs
    clear hq hk hs
    have e0 : ((m - i : Nat) : Int) = (m : Int) - (i : Int) := by omega
    have E0 := Lib.hid e0
    clear e0
    by_cases hij : i = j
    · subst hij
      have SL := Lib.hid (SR.out wr f' SS.out (m - i) m i (by omega) (by omega))
      rw [E0.out] at SL
      rw [rot_same f' m i him] at RO
      have RO2 := RO
      clear RO
      go_wp2_with fail
      with_reducible refine SL.out.mono ?_
      rintro e w3 ⟨rfl, k3, s3⟩
      have K3 := Lib.hid (KR.out.trans k3)
      have S3 := Lib.hid s3
      rw [RO2.out] at S3
      clear k3 s3
      go_wp2_with fail
      exact bodyPost_end (v := .tuple #[]) (by simp [results, Try.results45, go_sem]) rfl ⟨rfl, K3.out, S3.out⟩
    · have ne : ((i : Int) == (j : Int)) = false := by simp; omega
      by_cases hgt : j < i
      · have SL := Lib.hid (SR.out wr f' SS.out (m - i) m j (by omega) (by omega))
        rw [E0.out] at SL
        have RN := Lib.hid ((rot_more f' m i j him hgt).symm.trans RO.out)
        have gt : (j : Int) < (i : Int) := by omega
        have e1 : ((i - j : Nat) : Int) = (i : Int) - (j : Int) := by omega
        have E1 := Lib.hid e1
        clear RO hij e1
        go_wp2_with fail
        with_reducible refine SL.out.mono ?_
        rintro e w3 ⟨rfl, k3, s3⟩
        have K3 := Lib.hid (KR.out.trans k3)
        have S3 := Lib.hid s3
        clear k3 s3
        go_wp2_with fail
        go_roundg (i - j + j)
        case rel => exact ⟨i - j, j, _, by rw [E1.out], rfl, by omega, hj, by omega, hjn, by omega, K3.out, S3.out, RN⟩
        case measure => have := HQ.out; omega
      · have SL := Lib.hid (SR.out wr f' SS.out (m - i) (m + j - i) i (by omega) (by omega))
        rw [E0.out] at SL
        have e2 : ((m + j - i : Nat) : Int) = (m : Int) + (j : Int) - (i : Int) := by omega
        rw [e2] at SL
        have RN := Lib.hid ((rot_less f' m i j him (by omega)).symm.trans RO.out)
        have gt : ¬ (j : Int) < (i : Int) := by omega
        have e1 : ((j - i : Nat) : Int) = (j : Int) - (i : Int) := by omega
        have E1 := Lib.hid e1
        have hlt : i < j := by omega
        clear RO hij e1 e2 hgt
        go_wp2_with fail
        with_reducible refine SL.out.mono ?_
        rintro e w3 ⟨rfl, k3, s3⟩
        have K3 := Lib.hid (KR.out.trans k3)
        have S3 := Lib.hid s3
        clear k3 s3
        go_wp2_with fail
        go_roundg (i + (j - i))
        case rel => exact ⟨i, j - i, _, rfl, by rw [E1.out], hi, by omega, him, by omega, by omega, K3.out, S3.out, RN⟩
        case measure => have := HQ.out; omega
end
end Go.Proofs.Ytmiadhcmhnjmfaa
