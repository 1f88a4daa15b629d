/- The library's Stable over a list with its depths. -/
import Derived.Test.YtmiadhcmhnjmfaaWpY
namespace Go.Proofs.Ytmiadhcmhnjmfaa
open Go.RowKit
set_option linter.unusedVariables false
set_option linter.unusedSimpArgs false
theorem blk_all {bs n : Nat} {f : Nat → W5 × Nat} (h : BlkF ltD bs n f) (hn : n ≤ bs) : SrtF ltD 0 n f := fun p q _ hpq hq => h p q hpq hq (by rw [Nat.div_eq_of_lt (show p < bs by omega), Nat.div_eq_of_lt (show q < bs by omega)])
def BsR (bs : Nat) : Prop := bs = 20 ∨ bs = 40 ∨ bs = 80 ∨ bs = 160
theorem BsR.ok {bs n : Nat} (h : BsR bs) (hn : n ≤ 160) (hl : bs < n) : BsOK bs := by unfold BsOK; rcases h with rfl | rfl | rfl | rfl <;> omega
theorem BsR.twice {bs : Nat} (h : BsOK bs) : BsR (2 * bs) := by unfold BsR; rcases h with rfl | rfl | rfl <;> omega
theorem BsR.le {bs : Nat} (h : BsR bs) : 20 ≤ bs ∧ bs ≤ 160 := by rcases h with rfl | rfl | rfl | rfl <;> omega
section
variable (w : World)
set_option maxHeartbeats 16000000 in
set_option maxRecDepth 20000 in
theorem pstable (g h n c : Nat) (f : Nat → W5 × Nat) (s : SrtAt w g h n f) (hn : n ≤ 160) :
    Calls Try.prog 41 #[.iface 53 (.agg #[.slice (some ⟨g, 0, none⟩) n c, .slice (some ⟨h, 0, none⟩) n n]), .int .i64 n] w (PutIn g h n 0 n f w) := by
  have IS := Lib.hid (fun W f' (s' : SrtAt W g h n f') a b h1 h2 => pinsert W g h n c f' s' (by omega) a b h1 h2)
  have SY := Lib.hid (psym_all g h n c (by omega) n)
  have S0 := Lib.hid s
  clear s
  go_enter Try.func41, Try.ntmps41
  go_wp2_with fail
  go_loopg [5, 6] n (fun q av bv wr => ∃ (a : Nat) (f' : Nat → W5 × Nat), av = .int .i64 (a : Int) ∧ bv = .int .i64 ((a : Int) + 20) ∧ a % 20 = 0 ∧ a ≤ n ∧ n - a ≤ q ∧ KeepGH g h w wr ∧ SrtAt wr g h n f' ∧ Hid (PermF 0 n f f') ∧ Hid (TwtF ltD a f'))
  case atStart => exact ⟨0, f, rfl, rfl, rfl, Nat.zero_le _, Nat.le_refl _, KeepGH.refl _ _ _, S0.out, Lib.hid (PermF.refl _ _ _), Lib.hid (fun p q hpq hq => by omega)⟩
  case round =>
    obtain ⟨a, f', rfl, rfl, ha, han, hq, hk, hs, PF, TF⟩ := hrel
    have HQ := Lib.hid hq
    have KR := Lib.hid hk
    have SR := Lib.hid hs
    have HA := Lib.hid ha
    clear hq hk hs ha
    by_cases hlt : a + 20 ≤ n
    · have gl : (a : Int) + 20 ≤ (n : Int) := by omega
      have CI := Lib.hid (IS.out wr f' SR.out a (a + 20) (by omega) hlt)
      rw [show ((a + 20 : Nat) : Int) = (a : Int) + 20 from rfl] at CI
      go_wp2_with fail
      with_reducible refine CI.out.mono ?_
      rintro e w2 ⟨rfl, k2, f2, s2, p2, t2⟩
      have K2 := Lib.hid (KR.out.trans k2)
      have S2 := Lib.hid s2
      have P2 := Lib.hid (PF.out.trans (p2.mono (Nat.zero_le _) hlt))
      have T2 := Lib.hid (TF.out.step (n := 0) HA.out (Nat.le_refl _) p2 t2)
      clear k2 s2 p2 t2 PF TF
      go_wp2_with fail
      go_roundg (n - (a + 20))
      case rel => exact ⟨a + 20, f2, by go_num, by go_num, by have := HA.out; omega, hlt, Nat.le_refl _, K2.out, S2.out, P2, T2⟩
      case measure => have := HQ.out; omega
    · have gl : ¬ (a : Int) + 20 ≤ (n : Int) := by omega
      have CI := Lib.hid (IS.out wr f' SR.out a n han (Nat.le_refl _))
      have ha1000 : a ≤ 1000 := by omega
      go_wp2_with fail
      with_reducible refine CI.out.mono ?_
      rintro e w2 ⟨rfl, k2, f2, s2, p2, t2⟩
      have K2 := Lib.hid (KR.out.trans k2)
      have S2 := Lib.hid s2
      have P2 := Lib.hid (PF.out.trans (p2.mono (Nat.zero_le _) (Nat.le_refl _)))
      have T2 := Lib.hid (show BlkF ltD 20 n f2 from TF.out.step (n := 0) HA.out (show n ≤ a + 20 by omega) p2 t2)
      clear k2 s2 p2 t2 PF TF KR SR HQ HA hlt gl han
      go_wp2_with fail
      go_loopg [4] (200 - 20) (fun q bv wr => ∃ (bs : Nat) (f' : Nat → W5 × Nat), bv = .int .i64 (bs : Int) ∧ BsR bs ∧ 200 - bs ≤ q ∧ KeepGH g h w wr ∧ SrtAt wr g h n f' ∧ Hid (PermF 0 n f f') ∧ Hid (BlkF ltD bs n f'))
      case atStart => exact ⟨20, f2, rfl, .inl rfl, Nat.le_refl _, K2.out, S2.out, P2, T2⟩
      case round =>
        obtain ⟨bs, f', rfl, hbs, hq, hk, hs, PF, BF⟩ := hrel
        have HQ := Lib.hid hq
        have KR := Lib.hid hk
        have SR := Lib.hid hs
        have HBS := Lib.hid hbs
        obtain ⟨bs1, bs2⟩ := hbs.le
        clear hq hk hs hbs
        by_cases hlt : bs < n
        · have BO := Lib.hid (HBS.out.ok hn hlt)
          have M0 := Lib.hid (MrgF.start BF.out)
          clear BF
          go_wp2_with fail
          go_loopg [5, 6] n (fun q av bv wr => ∃ (a : Nat) (f' : Nat → W5 × Nat), av = .int .i64 (a : Int) ∧ bv = .int .i64 ((a : Int) + 2 * (bs : Int)) ∧ Hid (a % (2 * bs) = 0) ∧ a ≤ n ∧ n - a ≤ q ∧ KeepGH g h w wr ∧ SrtAt wr g h n f' ∧ Hid (PermF 0 n f f') ∧ Hid (MrgF ltD bs a n f'))
          case atStart => exact ⟨0, f', rfl, by rw [Int.natCast_zero, Int.zero_add], Lib.hid (Nat.zero_mod _), Nat.zero_le _, Nat.le_refl _, KR.out, SR.out, PF, M0⟩
          case round =>
            obtain ⟨a, f', rfl, rfl, HA, han, hq, hk, hs, PF, MF⟩ := hrel
            have HQ2 := Lib.hid hq
            have KR := Lib.hid hk
            have SR := Lib.hid hs
            clear hq hk hs
            by_cases hl2 : a + 2 * bs ≤ n
            · have gl : (a : Int) + 2 * (bs : Int) ≤ (n : Int) := by omega
              have CS := Lib.hid (SY.out.call wr f' a (a + bs) (a + 2 * bs) SR.out (by omega) (by omega) (by omega) hl2 (MF.out.left BO.out HA.out (by omega)) (MF.out.right BO.out HA.out hl2 (Nat.le_refl _)))
              have e1 : ((a + bs : Nat) : Int) = (a : Int) + (bs : Int) := by omega
              have e2 : ((a + 2 * bs : Nat) : Int) = (a : Int) + 2 * (bs : Int) := by omega
              rw [e1, e2] at CS
              have E2 := Lib.hid e2
              clear e1 e2
              go_wp2_with fail
              with_reducible refine CS.out.mono ?_
              rintro e w3 ⟨rfl, k3, f3, s3, p3, t3⟩
              have K3 := Lib.hid (KR.out.trans k3)
              have S3 := Lib.hid s3
              have P3 := Lib.hid (PF.out.trans (p3.mono (Nat.zero_le _) hl2))
              have M3 := Lib.hid (MF.out.step BO.out HA.out rfl hl2 p3 t3)
              have HN := Lib.hid (show (a + 2 * bs) % (2 * bs) = 0 by rw [Nat.add_mod_right]; exact HA.out)
              clear k3 s3 p3 t3 PF MF
              go_wp2_with fail
              go_roundg (n - (a + 2 * bs))
              case rel => exact ⟨a + 2 * bs, f3, by rw [E2.out], by rw [E2.out], HN, hl2, Nat.le_refl _, K3.out, S3.out, P3, M3⟩
              case measure => have := HQ2.out; omega
            · have gl : ¬ (a : Int) + 2 * (bs : Int) ≤ (n : Int) := by omega
              have tw := BsR.twice BO.out
              have TW := Lib.hid tw
              clear tw
              by_cases hl3 : a + bs < n
              · have gm : (a : Int) + (bs : Int) < (n : Int) := by omega
                have CS := Lib.hid (SY.out.call wr f' a (a + bs) n SR.out (by omega) (by omega) (by omega) (Nat.le_refl _) (MF.out.left BO.out HA.out (by omega)) (MF.out.right BO.out HA.out (Nat.le_refl _) (by omega)))
                have e1 : ((a + bs : Nat) : Int) = (a : Int) + (bs : Int) := by omega
                rw [e1] at CS
                clear e1
                go_wp2_with fail
                with_reducible refine CS.out.mono ?_
                rintro e w3 ⟨rfl, k3, f3, s3, p3, t3⟩
                have K3 := Lib.hid (KR.out.trans k3)
                have S3 := Lib.hid s3
                have P3 := Lib.hid (PF.out.trans (p3.mono (Nat.zero_le _) (Nat.le_refl _)))
                have M3 := Lib.hid (MF.out.last BO.out HA.out (by omega) p3 t3)
                clear k3 s3 p3 t3 PF MF
                go_wp2_with fail
                go_roundg (200 - 2 * bs)
                case rel => exact ⟨2 * bs, f3, by simp only [Value.int.injEq, true_and]; omega, TW.out, Nat.le_refl _, K3.out, S3.out, P3, M3⟩
                case measure => have := HQ.out; omega
              · have gm : ¬ (a : Int) + (bs : Int) < (n : Int) := by omega
                have M3 := Lib.hid (MF.out.none BO.out HA.out (by omega))
                clear MF
                go_wp2_with fail
                go_roundg (200 - 2 * bs)
                case rel => exact ⟨2 * bs, f', by simp only [Value.int.injEq, true_and]; omega, TW.out, Nat.le_refl _, KR.out, SR.out, PF, M3⟩
                case measure => have := HQ.out; omega
        · have FN := Lib.hid (blk_all BF.out (by omega))
          go_wp2_with fail
          exact bodyPost_end (v := .tuple #[]) (by simp [results, Try.results41, go_sem]) rfl ⟨rfl, KR.out, f', SR.out, PF.out, FN.out⟩
set_option maxHeartbeats 2000000 in
theorem pStable (g h n c : Nat) (f : Nat → W5 × Nat) (s : SrtAt w g h n f) (hn : n ≤ 160) :
    Calls Try.prog 35 #[.iface 53 (.agg #[.slice (some ⟨g, 0, none⟩) n c, .slice (some ⟨h, 0, none⟩) n n])] w (PutIn g h n 0 n f w) := by
  have PS := Lib.hid (pstable w g h n c f s hn)
  have PL := Lib.hid (plenL w (some ⟨g, 0, none⟩) n c)
  have lm := dLen (.slice (some ⟨g, 0, none⟩) n c) (.slice (some ⟨h, 0, none⟩) n n) w
  clear s
  go_enter Try.func35, Try.ntmps35
  go_wp2_with fail
  with_reducible refine PL.out.mono ?_
  rintro e w1 ⟨rfl, rfl⟩
  go_wp2_with fail
  with_reducible refine PS.out.mono ?_
  rintro e w2 ⟨rfl, k2, r2⟩
  have K2 := Lib.hid k2
  have R2 := Lib.hid r2
  clear k2 r2
  go_wp2_with fail
  exact bodyPost_end (v := .tuple #[]) (by simp [results, Try.results35, go_sem]) rfl ⟨rfl, K2.out, R2.out⟩
end
end Go.Proofs.Ytmiadhcmhnjmfaa
