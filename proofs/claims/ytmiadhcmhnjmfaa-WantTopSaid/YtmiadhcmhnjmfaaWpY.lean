/- The library's symMerge: two rows in order merged, by halves. -/
import Derived.Test.YtmiadhcmhnjmfaaWpX
namespace Go.Proofs.Ytmiadhcmhnjmfaa
open Go.RowKit
set_option linter.unusedVariables false
set_option linter.unusedSimpArgs false
/-- Two rows in order, one behind the other, are merged by the library: where they are no longer than so many. -/
def SymOK (g h n c N : Nat) : Prop := ∀ (W : World) (f : Nat → W5 × Nat) (a m b : Nat), SrtAt W g h n f → b - a ≤ N → a < m → m < b → b ≤ n → SrtF ltD a m f → SrtF ltD m b f →
  Calls Try.prog 44 #[.iface 53 (.agg #[.slice (some ⟨g, 0, none⟩) n c, .slice (some ⟨h, 0, none⟩) n n]), .int .i64 a, .int .i64 m, .int .i64 b] W (PutIn g h n a b f W)
theorem SymOK.call {g h n c N : Nat} (H : SymOK g h n c N) (W : World) (f : Nat → W5 × Nat) (a m b : Nat) (s : SrtAt W g h n f) (hN : b - a ≤ N) (ham : a < m) (hmb : m < b) (hb : b ≤ n) (s1 : SrtF ltD a m f) (s2 : SrtF ltD m b f) :
  Calls Try.prog 44 #[.iface 53 (.agg #[.slice (some ⟨g, 0, none⟩) n c, .slice (some ⟨h, 0, none⟩) n n]), .int .i64 a, .int .i64 m, .int .i64 b] W (PutIn g h n a b f W) := H W f a m b s hN ham hmb hb s1 s2
theorem CutF.left {a s mid e b : Nat} {G : Nat → W5 × Nat} (h : CutF ltD a s mid e b G) (hd : s ≤ a ∨ mid ≤ s) : SrtF ltD a mid G := by
  rcases hd with hd | hd
  · exact fun p q hp hpq hq => h.p2 p q (by omega) hpq hq
  · exact fun p q hp hpq hq => h.p1 p q hp hpq (by omega)
theorem right_of {a s mid e b : Nat} {G G2 : Nat → W5 × Nat} (h : CutF ltD a s mid e b G) (hp : PermF a mid G G2) (hme : mid ≤ e) : SrtF ltD mid e G2 ∧ SrtF ltD e b G2 :=
  ⟨h.p3.congr fun k hk _ => hp.out (by omega), h.p4.congr fun k hk _ => hp.out (by omega)⟩
theorem right_all {mid e b : Nat} {G2 : Nat → W5 × Nat} (h : SrtF ltD mid e G2 ∧ SrtF ltD e b G2) (hd : e ≤ mid ∨ b ≤ e) : SrtF ltD mid b G2 := by
  rcases hd with hd | hd
  · exact fun p q hp hpq hq => h.2 p q (by omega) hpq hq
  · exact fun p q hp hpq hq => h.1 p q hp hpq (by omega)
/-- What is known where the halves are cut. -/
structure SymCut (a m b mid t s e : Nat) (f : Nat → W5 × Nat) : Prop where
  am : a ≤ s
  sm : s ≤ m
  smid : s ≤ mid
  me : m ≤ e
  eb : e ≤ b
  mide : mid ≤ e
  te : t = s + e
  cut : CutF ltD a s mid e b (rotF f s m e)
section
variable (w : World)
set_option maxHeartbeats 100000000 in
set_option maxRecDepth 20000 in
theorem psym3A (g h n c N : Nat) (IH : SymOK g h n c N) (f : Nat → W5 × Nat) (s : SrtAt w g h n f) (hn : n ≤ 1000) (a m b mid t p lo hi : Nat) (hN : b - a ≤ N + 1) (ham : a + 1 < m) (hmb : m + 1 < b) (hb : b ≤ n) (s1 : SrtF ltD a m f) (s2 : SrtF ltD m b f)
    (hmid : mid = (a + b) / 2) (ht : t = mid + m) (hp : t = p + 1) (hmm : mid < m) (hlo : lo + b = mid + m) (hhi : hi = mid) :
    Calls Try.prog 44 #[.iface 53 (.agg #[.slice (some ⟨g, 0, none⟩) n c, .slice (some ⟨h, 0, none⟩) n n]), .int .i64 a, .int .i64 m, .int .i64 b] w (PutIn g h n a b f w) := by
  have LS := Lib.hid (fun W f' (s' : SrtAt W g h n f') i j hi hj => plessD W g h n c f' s' hn i j hi hj)
  have RT := Lib.hid (fun W f' (s' : SrtAt W g h n f') x y z h1 h2 h3 => protate W g h n c f' s' hn x y z h1 h2 h3)
  have ML := Lib.hid (dLess (.slice (some ⟨g, 0, none⟩) n c) (.slice (some ⟨h, 0, none⟩) n n))
  have S0 := Lib.hid s
  have HH := Lib.hid (show ∀ q, lo ≤ q → q ≤ hi → (q = lo ∨ ltD (f (t - q)) (f (q - 1)) = false) → (q = hi ∨ ltD (f (t - 1 - q)) (f q) = true) → SymCut a m b mid t q (t - q) f from fun q h1 h2 h3 h4 => by
    have e1 : q + (t - q - m) = mid := by omega
    refine ⟨by omega, by omega, by omega, by omega, by omega, by omega, by omega, ?_⟩
    have := cut_of ordD s1 s2 (s := q) (e := t - q) (by omega) (by omega) (by omega) (by omega) (fun c1 c2 => by
      rcases h3 with h3 | h3
      · omega
      · exact h3) (fun c1 c2 => by
      rcases h4 with h4 | h4
      · omega
      · have e2 : t - 1 - q = t - q - 1 := by omega
        rw [e2] at h4
        exact ordD.asym _ _ h4)
    rw [e1] at this
    exact this)
  have g1 : (((m : Int) - (a : Int)) == 1) = false := by simp; omega
  have g2 : ¬ ((m : Int) - (a : Int) = 1) := by omega
  have g3 : (((b : Int) - (m : Int)) == 1) = false := by simp; omega
  have g4 : ¬ ((b : Int) - (m : Int) = 1) := by omega
  have em : ((a : Int) + (b : Int)) / 2 = (mid : Int) := by omega
  have et : (mid : Int) + (m : Int) = (t : Int) := by omega
  have ep : (t : Int) - 1 = (p : Int) := by omega
  have es : (t : Int) - (b : Int) = (lo : Int) := by omega
  have gt : (mid : Int) < (m : Int) := by omega
  have BD := Lib.hid (show lo ≤ hi ∧ hi ≤ m ∧ hi ≤ mid ∧ a ≤ lo ∧ t ≤ lo + b ∧ mid + 1 ≤ b ∧ a + 1 ≤ mid ∧ mid - a ≤ N ∧ b - mid ≤ N ∧ hi + m ≤ t from by omega)
  have HHI := Lib.hid hhi
  have HLO := Lib.hid hlo
  have HP := Lib.hid hp
  have hm1000 : m ≤ 1000 := by omega
  have hmid1000 : mid ≤ 1000 := by omega
  have ht2000 : t ≤ 2000 := by omega
  have hp2000 : p ≤ 2000 := by omega
  clear s s1 s2 hmid ht hp hmm hlo hhi
  go_enter Try.func44, Try.ntmps44
  go_wp2_with fail
  clear g1 g2 g3 g4 em ep gt
  go_loopg [18, 19] (hi - lo) (fun q iv jv wr => ∃ i j : Nat, iv = .int .i64 (i : Int) ∧ jv = .int .i64 (j : Int) ∧ lo ≤ i ∧ i ≤ j ∧ j ≤ hi ∧ j - i ≤ q ∧ KeepGH g h w wr ∧ SrtAt wr g h n f ∧ Hid (i = lo ∨ ltD (f (t - i)) (f (i - 1)) = false) ∧ Hid (j = hi ∨ ltD (f (t - 1 - j)) (f j) = true))
  case atStart => have hB := BD.out; exact ⟨lo, hi, rfl, by rw [HHI.out], Nat.le_refl _, by omega, Nat.le_refl _, Nat.le_refl _, KeepGH.refl _ _ _, S0.out, Lib.hid (.inl rfl), Lib.hid (.inl rfl)⟩
  case round =>
    obtain ⟨i, j, rfl, rfl, hmi, hij, hjb, hq, hk, hs, CA, CB⟩ := hrel
    have HQ := Lib.hid hq
    have KR := Lib.hid hk
    have SR := Lib.hid hs
    have jl : j ≤ 1000 := by have := BD.out; omega
    clear hq hk hs
    by_cases hlt : i < j
    · obtain ⟨x, hx⟩ : ∃ x, x = (i + j) / 2 := ⟨_, rfl⟩
      have xe : ((i : Int) + (j : Int)) / 2 = (x : Int) := by omega
      have x0 : i ≤ x := by omega
      have x1 : x < j := by omega
      obtain ⟨y, hy⟩ : ∃ y, p = y + x := ⟨p - x, by have := BD.out; have := HP.out; omega⟩
      have ye : (p : Int) - (x : Int) = (y : Int) := by omega
      have yt : t - 1 - x = y := by have := HP.out; omega
      have yt2 : t - (x + 1) = y := by omega
      have LL := Lib.hid (LS.out wr f SR.out y x (by have := BD.out; have := HP.out; omega) (by have := BD.out; omega))
      have lm := ML.out wr
      obtain ⟨bb, hbb⟩ : ∃ bb, bb = ltD (f y) (f x) := ⟨_, rfl⟩
      rw [← hbb] at LL
      have HBB := Lib.hid hbb
      have YT := Lib.hid yt
      have YT2 := Lib.hid yt2
      clear hx hbb hy yt yt2
      cases bb
      · have NA := Lib.hid (show x + 1 = lo ∨ ltD (f (t - (x + 1))) (f (x + 1 - 1)) = false from .inr (by rw [YT2.out]; exact HBB.out.symm))
        clear CA
        go_wp2_with fail
        with_reducible refine LL.out.mono ?_
        rintro e w2 ⟨rfl, h2⟩
        have S2 := Lib.hid (SR.out.below h2)
        have K2 := Lib.hid (KR.out.trans (KeepGH.of h2))
        clear h2 lm
        go_wp2_with fail
        go_roundg (j - (x + 1))
        case rel => exact ⟨x + 1, j, rfl, rfl, by omega, by omega, hjb, Nat.le_refl _, K2.out, S2.out, NA, CB⟩
        case measure => have := HQ.out; omega
      · have NB := Lib.hid (show x = hi ∨ ltD (f (t - 1 - x)) (f x) = true from .inr (by rw [YT.out]; exact HBB.out.symm))
        clear CB
        go_wp2_with fail
        with_reducible refine LL.out.mono ?_
        rintro e w2 ⟨rfl, h2⟩
        have S2 := Lib.hid (SR.out.below h2)
        have K2 := Lib.hid (KR.out.trans (KeepGH.of h2))
        clear h2 lm
        go_wp2_with fail
        go_roundg (x - i)
        case rel => exact ⟨i, x, rfl, rfl, hmi, x0, by omega, Nat.le_refl _, K2.out, S2.out, CA, NB⟩
        case measure => have := HQ.out; omega
    · have hji : j = i := by omega
      subst hji
      have SC := Lib.hid (HH.out j hmi hjb CA.out CB.out)
      obtain ⟨e, he⟩ : ∃ e, e = t - j := ⟨_, rfl⟩
      rw [← he] at SC
      have ee : (t : Int) - (j : Int) = (e : Int) := by have := SC.out.te; omega
      obtain ⟨G, hG⟩ : ∃ G, G = rotF f j m e := ⟨_, rfl⟩
      have CT := Lib.hid (show CutF ltD a j mid e b G from by rw [hG]; exact SC.out.cut)
      have PG := Lib.hid (show PermF a b f G from by
        rw [hG]
        exact (PermF.rot (a := j) (b := e) (m := m) SC.out.sm SC.out.me).mono SC.out.am SC.out.eb)
      have GE := Lib.hid hG
      have SCN := Lib.hid (show a ≤ j ∧ j ≤ m ∧ j ≤ mid ∧ m ≤ e ∧ e ≤ b ∧ mid ≤ e from ⟨SC.out.am, SC.out.sm, SC.out.smid, SC.out.me, SC.out.eb, SC.out.mide⟩)
      have KR0 := KR
      have SR0 := SR
      clear CA CB SC he hG HH LS ML HQ hlt hij KR SR
      by_cases ho1 : j < m
      · by_cases ho2 : m < e
        · have o1 : (j : Int) < (m : Int) := by omega
          have o2 : (m : Int) < (e : Int) := by omega
          have CO := Lib.hid (RT.out wr f SR0.out j m e ho1 ho2 (by have := SCN.out; omega))
          rw [← GE.out] at CO
          go_wp2_with fail
          with_reducible refine CO.out.mono ?_
          rintro e3 w3 ⟨rfl, k3, s3⟩
          have K3 := Lib.hid (KR0.out.trans k3)
          have S3 := Lib.hid s3
          clear k3 s3 CO
          by_cases hl1 : a < j
          · by_cases hl2 : j < mid
            · have l1 : (a : Int) < (j : Int) := by omega
              have l2 : (j : Int) < (mid : Int) := by omega
              have CL := Lib.hid (IH.call _ G a j mid S3.out (by have := BD.out; omega) hl1 hl2 (by have := BD.out; omega) CT.out.p1 CT.out.p2)
              go_wp2_with fail
              with_reducible refine CL.out.mono ?_
              rintro e4 w4 ⟨rfl, k4, G4, s4, p4, t4⟩
              have K4 := Lib.hid (K3.out.trans k4)
              have S4 := Lib.hid s4
              have LLL := And.intro p4 t4
              clear k4 s4
              by_cases hr1 : mid < e
              · by_cases hr2 : e < b
                · have r1 : (mid : Int) < (e : Int) := by omega
                  have r2 : (e : Int) < (b : Int) := by omega
                  have RO := right_of CT.out LLL.1 SCN.out.2.2.2.2.2
                  have CR := Lib.hid (IH.call _ G4 mid e b S4.out (by have := BD.out; omega) hr1 hr2 hb RO.1 RO.2)
                  clear RO
                  go_wp2_with fail
                  with_reducible refine CR.out.mono ?_
                  rintro e5 w5 ⟨rfl, k5, G5, s5, p5, t5⟩
                  have K5 := Lib.hid (K4.out.trans k5)
                  have S5 := Lib.hid s5
                  have RR := And.intro p5 t5
                  clear k5 s5
                  have FN := Lib.hid (cut_join (show a ≤ mid by have := BD.out; omega) (show mid ≤ b by have := BD.out; omega) CT.out.cross LLL.1 LLL.2 RR.1 RR.2)
                  go_wp2_with fail
                  exact bodyPost_end (v := .tuple #[]) (by simp [results, Try.results44, go_sem]) rfl ⟨rfl, K5.out, _, S5.out, PG.out.trans FN.out.2, FN.out.1⟩
                · have r1 : (mid : Int) < (e : Int) := by omega
                  have r2 : ¬ (e : Int) < (b : Int) := by omega
                  have RR := And.intro (PermF.refl mid b G4) (right_all (right_of CT.out LLL.1 SCN.out.2.2.2.2.2) (.inr (show b ≤ e by omega)))
                  have FN := Lib.hid (cut_join (show a ≤ mid by have := BD.out; omega) (show mid ≤ b by have := BD.out; omega) CT.out.cross LLL.1 LLL.2 RR.1 RR.2)
                  go_wp2_with fail
                  exact bodyPost_end (v := .tuple #[]) (by simp [results, Try.results44, go_sem]) rfl ⟨rfl, K4.out, _, S4.out, PG.out.trans FN.out.2, FN.out.1⟩
              · have r1 : ¬ (mid : Int) < (e : Int) := by omega
                have RR := And.intro (PermF.refl mid b G4) (right_all (right_of CT.out LLL.1 SCN.out.2.2.2.2.2) (.inl (show e ≤ mid by omega)))
                have FN := Lib.hid (cut_join (show a ≤ mid by have := BD.out; omega) (show mid ≤ b by have := BD.out; omega) CT.out.cross LLL.1 LLL.2 RR.1 RR.2)
                go_wp2_with fail
                exact bodyPost_end (v := .tuple #[]) (by simp [results, Try.results44, go_sem]) rfl ⟨rfl, K4.out, _, S4.out, PG.out.trans FN.out.2, FN.out.1⟩
            · have l1 : (a : Int) < (j : Int) := by omega
              have l2 : ¬ (j : Int) < (mid : Int) := by omega
              have LLL := And.intro (PermF.refl a mid G) (CT.out.left (.inr (show mid ≤ j by omega)))
              by_cases hr1 : mid < e
              · by_cases hr2 : e < b
                · have r1 : (mid : Int) < (e : Int) := by omega
                  have r2 : (e : Int) < (b : Int) := by omega
                  have RO := right_of CT.out LLL.1 SCN.out.2.2.2.2.2
                  have CR := Lib.hid (IH.call _ G mid e b S3.out (by have := BD.out; omega) hr1 hr2 hb RO.1 RO.2)
                  clear RO
                  go_wp2_with fail
                  with_reducible refine CR.out.mono ?_
                  rintro e5 w5 ⟨rfl, k5, G5, s5, p5, t5⟩
                  have K5 := Lib.hid (K3.out.trans k5)
                  have S5 := Lib.hid s5
                  have RR := And.intro p5 t5
                  clear k5 s5
                  have FN := Lib.hid (cut_join (show a ≤ mid by have := BD.out; omega) (show mid ≤ b by have := BD.out; omega) CT.out.cross LLL.1 LLL.2 RR.1 RR.2)
                  go_wp2_with fail
                  exact bodyPost_end (v := .tuple #[]) (by simp [results, Try.results44, go_sem]) rfl ⟨rfl, K5.out, _, S5.out, PG.out.trans FN.out.2, FN.out.1⟩
                · have r1 : (mid : Int) < (e : Int) := by omega
                  have r2 : ¬ (e : Int) < (b : Int) := by omega
                  have RR := And.intro (PermF.refl mid b G) (right_all (right_of CT.out LLL.1 SCN.out.2.2.2.2.2) (.inr (show b ≤ e by omega)))
                  have FN := Lib.hid (cut_join (show a ≤ mid by have := BD.out; omega) (show mid ≤ b by have := BD.out; omega) CT.out.cross LLL.1 LLL.2 RR.1 RR.2)
                  go_wp2_with fail
                  exact bodyPost_end (v := .tuple #[]) (by simp [results, Try.results44, go_sem]) rfl ⟨rfl, K3.out, _, S3.out, PG.out.trans FN.out.2, FN.out.1⟩
              · have r1 : ¬ (mid : Int) < (e : Int) := by omega
                have RR := And.intro (PermF.refl mid b G) (right_all (right_of CT.out LLL.1 SCN.out.2.2.2.2.2) (.inl (show e ≤ mid by omega)))
                have FN := Lib.hid (cut_join (show a ≤ mid by have := BD.out; omega) (show mid ≤ b by have := BD.out; omega) CT.out.cross LLL.1 LLL.2 RR.1 RR.2)
                go_wp2_with fail
                exact bodyPost_end (v := .tuple #[]) (by simp [results, Try.results44, go_sem]) rfl ⟨rfl, K3.out, _, S3.out, PG.out.trans FN.out.2, FN.out.1⟩
          · have l1 : ¬ (a : Int) < (j : Int) := by omega
            have LLL := And.intro (PermF.refl a mid G) (CT.out.left (.inl (show j ≤ a by omega)))
            by_cases hr1 : mid < e
            · by_cases hr2 : e < b
              · have r1 : (mid : Int) < (e : Int) := by omega
                have r2 : (e : Int) < (b : Int) := by omega
                have RO := right_of CT.out LLL.1 SCN.out.2.2.2.2.2
                have CR := Lib.hid (IH.call _ G mid e b S3.out (by have := BD.out; omega) hr1 hr2 hb RO.1 RO.2)
                clear RO
                go_wp2_with fail
                with_reducible refine CR.out.mono ?_
                rintro e5 w5 ⟨rfl, k5, G5, s5, p5, t5⟩
                have K5 := Lib.hid (K3.out.trans k5)
                have S5 := Lib.hid s5
                have RR := And.intro p5 t5
                clear k5 s5
                have FN := Lib.hid (cut_join (show a ≤ mid by have := BD.out; omega) (show mid ≤ b by have := BD.out; omega) CT.out.cross LLL.1 LLL.2 RR.1 RR.2)
                go_wp2_with fail
                exact bodyPost_end (v := .tuple #[]) (by simp [results, Try.results44, go_sem]) rfl ⟨rfl, K5.out, _, S5.out, PG.out.trans FN.out.2, FN.out.1⟩
              · have r1 : (mid : Int) < (e : Int) := by omega
                have r2 : ¬ (e : Int) < (b : Int) := by omega
                have RR := And.intro (PermF.refl mid b G) (right_all (right_of CT.out LLL.1 SCN.out.2.2.2.2.2) (.inr (show b ≤ e by omega)))
                have FN := Lib.hid (cut_join (show a ≤ mid by have := BD.out; omega) (show mid ≤ b by have := BD.out; omega) CT.out.cross LLL.1 LLL.2 RR.1 RR.2)
                go_wp2_with fail
                exact bodyPost_end (v := .tuple #[]) (by simp [results, Try.results44, go_sem]) rfl ⟨rfl, K3.out, _, S3.out, PG.out.trans FN.out.2, FN.out.1⟩
            · have r1 : ¬ (mid : Int) < (e : Int) := by omega
              have RR := And.intro (PermF.refl mid b G) (right_all (right_of CT.out LLL.1 SCN.out.2.2.2.2.2) (.inl (show e ≤ mid by omega)))
              have FN := Lib.hid (cut_join (show a ≤ mid by have := BD.out; omega) (show mid ≤ b by have := BD.out; omega) CT.out.cross LLL.1 LLL.2 RR.1 RR.2)
              go_wp2_with fail
              exact bodyPost_end (v := .tuple #[]) (by simp [results, Try.results44, go_sem]) rfl ⟨rfl, K3.out, _, S3.out, PG.out.trans FN.out.2, FN.out.1⟩
        · have o1 : (j : Int) < (m : Int) := by omega
          have o2 : ¬ (m : Int) < (e : Int) := by omega
          have S3 := Lib.hid (show SrtAt wr g h n G from by
            rw [GE.out, show e = m by have := SCN.out; omega, rot_nought2]; exact SR0.out)
          by_cases hl1 : a < j
          · by_cases hl2 : j < mid
            · have l1 : (a : Int) < (j : Int) := by omega
              have l2 : (j : Int) < (mid : Int) := by omega
              have CL := Lib.hid (IH.call _ G a j mid S3.out (by have := BD.out; omega) hl1 hl2 (by have := BD.out; omega) CT.out.p1 CT.out.p2)
              go_wp2_with fail
              with_reducible refine CL.out.mono ?_
              rintro e4 w4 ⟨rfl, k4, G4, s4, p4, t4⟩
              have K4 := Lib.hid (KR0.out.trans k4)
              have S4 := Lib.hid s4
              have LLL := And.intro p4 t4
              clear k4 s4
              by_cases hr1 : mid < e
              · by_cases hr2 : e < b
                · have r1 : (mid : Int) < (e : Int) := by omega
                  have r2 : (e : Int) < (b : Int) := by omega
                  have RO := right_of CT.out LLL.1 SCN.out.2.2.2.2.2
                  have CR := Lib.hid (IH.call _ G4 mid e b S4.out (by have := BD.out; omega) hr1 hr2 hb RO.1 RO.2)
                  clear RO
                  go_wp2_with fail
                  with_reducible refine CR.out.mono ?_
                  rintro e5 w5 ⟨rfl, k5, G5, s5, p5, t5⟩
                  have K5 := Lib.hid (K4.out.trans k5)
                  have S5 := Lib.hid s5
                  have RR := And.intro p5 t5
                  clear k5 s5
                  have FN := Lib.hid (cut_join (show a ≤ mid by have := BD.out; omega) (show mid ≤ b by have := BD.out; omega) CT.out.cross LLL.1 LLL.2 RR.1 RR.2)
                  go_wp2_with fail
                  exact bodyPost_end (v := .tuple #[]) (by simp [results, Try.results44, go_sem]) rfl ⟨rfl, K5.out, _, S5.out, PG.out.trans FN.out.2, FN.out.1⟩
                · have r1 : (mid : Int) < (e : Int) := by omega
                  have r2 : ¬ (e : Int) < (b : Int) := by omega
                  have RR := And.intro (PermF.refl mid b G4) (right_all (right_of CT.out LLL.1 SCN.out.2.2.2.2.2) (.inr (show b ≤ e by omega)))
                  have FN := Lib.hid (cut_join (show a ≤ mid by have := BD.out; omega) (show mid ≤ b by have := BD.out; omega) CT.out.cross LLL.1 LLL.2 RR.1 RR.2)
                  go_wp2_with fail
                  exact bodyPost_end (v := .tuple #[]) (by simp [results, Try.results44, go_sem]) rfl ⟨rfl, K4.out, _, S4.out, PG.out.trans FN.out.2, FN.out.1⟩
              · have r1 : ¬ (mid : Int) < (e : Int) := by omega
                have RR := And.intro (PermF.refl mid b G4) (right_all (right_of CT.out LLL.1 SCN.out.2.2.2.2.2) (.inl (show e ≤ mid by omega)))
                have FN := Lib.hid (cut_join (show a ≤ mid by have := BD.out; omega) (show mid ≤ b by have := BD.out; omega) CT.out.cross LLL.1 LLL.2 RR.1 RR.2)
                go_wp2_with fail
                exact bodyPost_end (v := .tuple #[]) (by simp [results, Try.results44, go_sem]) rfl ⟨rfl, K4.out, _, S4.out, PG.out.trans FN.out.2, FN.out.1⟩
            · have l1 : (a : Int) < (j : Int) := by omega
              have l2 : ¬ (j : Int) < (mid : Int) := by omega
              have LLL := And.intro (PermF.refl a mid G) (CT.out.left (.inr (show mid ≤ j by omega)))
              by_cases hr1 : mid < e
              · by_cases hr2 : e < b
                · have r1 : (mid : Int) < (e : Int) := by omega
                  have r2 : (e : Int) < (b : Int) := by omega
                  have RO := right_of CT.out LLL.1 SCN.out.2.2.2.2.2
                  have CR := Lib.hid (IH.call _ G mid e b S3.out (by have := BD.out; omega) hr1 hr2 hb RO.1 RO.2)
                  clear RO
                  go_wp2_with fail
                  with_reducible refine CR.out.mono ?_
                  rintro e5 w5 ⟨rfl, k5, G5, s5, p5, t5⟩
                  have K5 := Lib.hid (KR0.out.trans k5)
                  have S5 := Lib.hid s5
                  have RR := And.intro p5 t5
                  clear k5 s5
                  have FN := Lib.hid (cut_join (show a ≤ mid by have := BD.out; omega) (show mid ≤ b by have := BD.out; omega) CT.out.cross LLL.1 LLL.2 RR.1 RR.2)
                  go_wp2_with fail
                  exact bodyPost_end (v := .tuple #[]) (by simp [results, Try.results44, go_sem]) rfl ⟨rfl, K5.out, _, S5.out, PG.out.trans FN.out.2, FN.out.1⟩
                · have r1 : (mid : Int) < (e : Int) := by omega
                  have r2 : ¬ (e : Int) < (b : Int) := by omega
                  have RR := And.intro (PermF.refl mid b G) (right_all (right_of CT.out LLL.1 SCN.out.2.2.2.2.2) (.inr (show b ≤ e by omega)))
                  have FN := Lib.hid (cut_join (show a ≤ mid by have := BD.out; omega) (show mid ≤ b by have := BD.out; omega) CT.out.cross LLL.1 LLL.2 RR.1 RR.2)
                  go_wp2_with fail
                  exact bodyPost_end (v := .tuple #[]) (by simp [results, Try.results44, go_sem]) rfl ⟨rfl, KR0.out, _, S3.out, PG.out.trans FN.out.2, FN.out.1⟩
              · have r1 : ¬ (mid : Int) < (e : Int) := by omega
                have RR := And.intro (PermF.refl mid b G) (right_all (right_of CT.out LLL.1 SCN.out.2.2.2.2.2) (.inl (show e ≤ mid by omega)))
                have FN := Lib.hid (cut_join (show a ≤ mid by have := BD.out; omega) (show mid ≤ b by have := BD.out; omega) CT.out.cross LLL.1 LLL.2 RR.1 RR.2)
                go_wp2_with fail
                exact bodyPost_end (v := .tuple #[]) (by simp [results, Try.results44, go_sem]) rfl ⟨rfl, KR0.out, _, S3.out, PG.out.trans FN.out.2, FN.out.1⟩
          · have l1 : ¬ (a : Int) < (j : Int) := by omega
            have LLL := And.intro (PermF.refl a mid G) (CT.out.left (.inl (show j ≤ a by omega)))
            by_cases hr1 : mid < e
            · by_cases hr2 : e < b
              · have r1 : (mid : Int) < (e : Int) := by omega
                have r2 : (e : Int) < (b : Int) := by omega
                have RO := right_of CT.out LLL.1 SCN.out.2.2.2.2.2
                have CR := Lib.hid (IH.call _ G mid e b S3.out (by have := BD.out; omega) hr1 hr2 hb RO.1 RO.2)
                clear RO
                go_wp2_with fail
                with_reducible refine CR.out.mono ?_
                rintro e5 w5 ⟨rfl, k5, G5, s5, p5, t5⟩
                have K5 := Lib.hid (KR0.out.trans k5)
                have S5 := Lib.hid s5
                have RR := And.intro p5 t5
                clear k5 s5
                have FN := Lib.hid (cut_join (show a ≤ mid by have := BD.out; omega) (show mid ≤ b by have := BD.out; omega) CT.out.cross LLL.1 LLL.2 RR.1 RR.2)
                go_wp2_with fail
                exact bodyPost_end (v := .tuple #[]) (by simp [results, Try.results44, go_sem]) rfl ⟨rfl, K5.out, _, S5.out, PG.out.trans FN.out.2, FN.out.1⟩
              · have r1 : (mid : Int) < (e : Int) := by omega
                have r2 : ¬ (e : Int) < (b : Int) := by omega
                have RR := And.intro (PermF.refl mid b G) (right_all (right_of CT.out LLL.1 SCN.out.2.2.2.2.2) (.inr (show b ≤ e by omega)))
                have FN := Lib.hid (cut_join (show a ≤ mid by have := BD.out; omega) (show mid ≤ b by have := BD.out; omega) CT.out.cross LLL.1 LLL.2 RR.1 RR.2)
                go_wp2_with fail
                exact bodyPost_end (v := .tuple #[]) (by simp [results, Try.results44, go_sem]) rfl ⟨rfl, KR0.out, _, S3.out, PG.out.trans FN.out.2, FN.out.1⟩
            · have r1 : ¬ (mid : Int) < (e : Int) := by omega
              have RR := And.intro (PermF.refl mid b G) (right_all (right_of CT.out LLL.1 SCN.out.2.2.2.2.2) (.inl (show e ≤ mid by omega)))
              have FN := Lib.hid (cut_join (show a ≤ mid by have := BD.out; omega) (show mid ≤ b by have := BD.out; omega) CT.out.cross LLL.1 LLL.2 RR.1 RR.2)
              go_wp2_with fail
              exact bodyPost_end (v := .tuple #[]) (by simp [results, Try.results44, go_sem]) rfl ⟨rfl, KR0.out, _, S3.out, PG.out.trans FN.out.2, FN.out.1⟩
      · have o1 : ¬ (j : Int) < (m : Int) := by omega
        have S3 := Lib.hid (show SrtAt wr g h n G from by
          rw [GE.out, show j = m by have := SCN.out; omega, rot_nought f m e (by have := SCN.out; omega)]; exact SR0.out)
        by_cases hl1 : a < j
        · by_cases hl2 : j < mid
          · have l1 : (a : Int) < (j : Int) := by omega
            have l2 : (j : Int) < (mid : Int) := by omega
            have CL := Lib.hid (IH.call _ G a j mid S3.out (by have := BD.out; omega) hl1 hl2 (by have := BD.out; omega) CT.out.p1 CT.out.p2)
            go_wp2_with fail
            with_reducible refine CL.out.mono ?_
            rintro e4 w4 ⟨rfl, k4, G4, s4, p4, t4⟩
            have K4 := Lib.hid (KR0.out.trans k4)
            have S4 := Lib.hid s4
            have LLL := And.intro p4 t4
            clear k4 s4
            by_cases hr1 : mid < e
            · by_cases hr2 : e < b
              · have r1 : (mid : Int) < (e : Int) := by omega
                have r2 : (e : Int) < (b : Int) := by omega
                have RO := right_of CT.out LLL.1 SCN.out.2.2.2.2.2
                have CR := Lib.hid (IH.call _ G4 mid e b S4.out (by have := BD.out; omega) hr1 hr2 hb RO.1 RO.2)
                clear RO
                go_wp2_with fail
                with_reducible refine CR.out.mono ?_
                rintro e5 w5 ⟨rfl, k5, G5, s5, p5, t5⟩
                have K5 := Lib.hid (K4.out.trans k5)
                have S5 := Lib.hid s5
                have RR := And.intro p5 t5
                clear k5 s5
                have FN := Lib.hid (cut_join (show a ≤ mid by have := BD.out; omega) (show mid ≤ b by have := BD.out; omega) CT.out.cross LLL.1 LLL.2 RR.1 RR.2)
                go_wp2_with fail
                exact bodyPost_end (v := .tuple #[]) (by simp [results, Try.results44, go_sem]) rfl ⟨rfl, K5.out, _, S5.out, PG.out.trans FN.out.2, FN.out.1⟩
              · have r1 : (mid : Int) < (e : Int) := by omega
                have r2 : ¬ (e : Int) < (b : Int) := by omega
                have RR := And.intro (PermF.refl mid b G4) (right_all (right_of CT.out LLL.1 SCN.out.2.2.2.2.2) (.inr (show b ≤ e by omega)))
                have FN := Lib.hid (cut_join (show a ≤ mid by have := BD.out; omega) (show mid ≤ b by have := BD.out; omega) CT.out.cross LLL.1 LLL.2 RR.1 RR.2)
                go_wp2_with fail
                exact bodyPost_end (v := .tuple #[]) (by simp [results, Try.results44, go_sem]) rfl ⟨rfl, K4.out, _, S4.out, PG.out.trans FN.out.2, FN.out.1⟩
            · have r1 : ¬ (mid : Int) < (e : Int) := by omega
              have RR := And.intro (PermF.refl mid b G4) (right_all (right_of CT.out LLL.1 SCN.out.2.2.2.2.2) (.inl (show e ≤ mid by omega)))
              have FN := Lib.hid (cut_join (show a ≤ mid by have := BD.out; omega) (show mid ≤ b by have := BD.out; omega) CT.out.cross LLL.1 LLL.2 RR.1 RR.2)
              go_wp2_with fail
              exact bodyPost_end (v := .tuple #[]) (by simp [results, Try.results44, go_sem]) rfl ⟨rfl, K4.out, _, S4.out, PG.out.trans FN.out.2, FN.out.1⟩
          · have l1 : (a : Int) < (j : Int) := by omega
            have l2 : ¬ (j : Int) < (mid : Int) := by omega
            have LLL := And.intro (PermF.refl a mid G) (CT.out.left (.inr (show mid ≤ j by omega)))
            by_cases hr1 : mid < e
            · by_cases hr2 : e < b
              · have r1 : (mid : Int) < (e : Int) := by omega
                have r2 : (e : Int) < (b : Int) := by omega
                have RO := right_of CT.out LLL.1 SCN.out.2.2.2.2.2
                have CR := Lib.hid (IH.call _ G mid e b S3.out (by have := BD.out; omega) hr1 hr2 hb RO.1 RO.2)
                clear RO
                go_wp2_with fail
                with_reducible refine CR.out.mono ?_
                rintro e5 w5 ⟨rfl, k5, G5, s5, p5, t5⟩
                have K5 := Lib.hid (KR0.out.trans k5)
                have S5 := Lib.hid s5
                have RR := And.intro p5 t5
                clear k5 s5
                have FN := Lib.hid (cut_join (show a ≤ mid by have := BD.out; omega) (show mid ≤ b by have := BD.out; omega) CT.out.cross LLL.1 LLL.2 RR.1 RR.2)
                go_wp2_with fail
                exact bodyPost_end (v := .tuple #[]) (by simp [results, Try.results44, go_sem]) rfl ⟨rfl, K5.out, _, S5.out, PG.out.trans FN.out.2, FN.out.1⟩
              · have r1 : (mid : Int) < (e : Int) := by omega
                have r2 : ¬ (e : Int) < (b : Int) := by omega
                have RR := And.intro (PermF.refl mid b G) (right_all (right_of CT.out LLL.1 SCN.out.2.2.2.2.2) (.inr (show b ≤ e by omega)))
                have FN := Lib.hid (cut_join (show a ≤ mid by have := BD.out; omega) (show mid ≤ b by have := BD.out; omega) CT.out.cross LLL.1 LLL.2 RR.1 RR.2)
                go_wp2_with fail
                exact bodyPost_end (v := .tuple #[]) (by simp [results, Try.results44, go_sem]) rfl ⟨rfl, KR0.out, _, S3.out, PG.out.trans FN.out.2, FN.out.1⟩
            · have r1 : ¬ (mid : Int) < (e : Int) := by omega
              have RR := And.intro (PermF.refl mid b G) (right_all (right_of CT.out LLL.1 SCN.out.2.2.2.2.2) (.inl (show e ≤ mid by omega)))
              have FN := Lib.hid (cut_join (show a ≤ mid by have := BD.out; omega) (show mid ≤ b by have := BD.out; omega) CT.out.cross LLL.1 LLL.2 RR.1 RR.2)
              go_wp2_with fail
              exact bodyPost_end (v := .tuple #[]) (by simp [results, Try.results44, go_sem]) rfl ⟨rfl, KR0.out, _, S3.out, PG.out.trans FN.out.2, FN.out.1⟩
        · have l1 : ¬ (a : Int) < (j : Int) := by omega
          have LLL := And.intro (PermF.refl a mid G) (CT.out.left (.inl (show j ≤ a by omega)))
          by_cases hr1 : mid < e
          · by_cases hr2 : e < b
            · have r1 : (mid : Int) < (e : Int) := by omega
              have r2 : (e : Int) < (b : Int) := by omega
              have RO := right_of CT.out LLL.1 SCN.out.2.2.2.2.2
              have CR := Lib.hid (IH.call _ G mid e b S3.out (by have := BD.out; omega) hr1 hr2 hb RO.1 RO.2)
              clear RO
              go_wp2_with fail
              with_reducible refine CR.out.mono ?_
              rintro e5 w5 ⟨rfl, k5, G5, s5, p5, t5⟩
              have K5 := Lib.hid (KR0.out.trans k5)
              have S5 := Lib.hid s5
              have RR := And.intro p5 t5
              clear k5 s5
              have FN := Lib.hid (cut_join (show a ≤ mid by have := BD.out; omega) (show mid ≤ b by have := BD.out; omega) CT.out.cross LLL.1 LLL.2 RR.1 RR.2)
              go_wp2_with fail
              exact bodyPost_end (v := .tuple #[]) (by simp [results, Try.results44, go_sem]) rfl ⟨rfl, K5.out, _, S5.out, PG.out.trans FN.out.2, FN.out.1⟩
            · have r1 : (mid : Int) < (e : Int) := by omega
              have r2 : ¬ (e : Int) < (b : Int) := by omega
              have RR := And.intro (PermF.refl mid b G) (right_all (right_of CT.out LLL.1 SCN.out.2.2.2.2.2) (.inr (show b ≤ e by omega)))
              have FN := Lib.hid (cut_join (show a ≤ mid by have := BD.out; omega) (show mid ≤ b by have := BD.out; omega) CT.out.cross LLL.1 LLL.2 RR.1 RR.2)
              go_wp2_with fail
              exact bodyPost_end (v := .tuple #[]) (by simp [results, Try.results44, go_sem]) rfl ⟨rfl, KR0.out, _, S3.out, PG.out.trans FN.out.2, FN.out.1⟩
          · have r1 : ¬ (mid : Int) < (e : Int) := by omega
            have RR := And.intro (PermF.refl mid b G) (right_all (right_of CT.out LLL.1 SCN.out.2.2.2.2.2) (.inl (show e ≤ mid by omega)))
            have FN := Lib.hid (cut_join (show a ≤ mid by have := BD.out; omega) (show mid ≤ b by have := BD.out; omega) CT.out.cross LLL.1 LLL.2 RR.1 RR.2)
            go_wp2_with fail
            exact bodyPost_end (v := .tuple #[]) (by simp [results, Try.results44, go_sem]) rfl ⟨rfl, KR0.out, _, S3.out, PG.out.trans FN.out.2, FN.out.1⟩
set_option maxHeartbeats 100000000 in
set_option maxRecDepth 20000 in
theorem psym3B (g h n c N : Nat) (IH : SymOK g h n c N) (f : Nat → W5 × Nat) (s : SrtAt w g h n f) (hn : n ≤ 1000) (a m b mid t p lo hi : Nat) (hN : b - a ≤ N + 1) (ham : a + 1 < m) (hmb : m + 1 < b) (hb : b ≤ n) (s1 : SrtF ltD a m f) (s2 : SrtF ltD m b f)
    (hmid : mid = (a + b) / 2) (ht : t = mid + m) (hp : t = p + 1) (hmm : m ≤ mid) (hlo : lo = a) (hhi : hi = m) :
    Calls Try.prog 44 #[.iface 53 (.agg #[.slice (some ⟨g, 0, none⟩) n c, .slice (some ⟨h, 0, none⟩) n n]), .int .i64 a, .int .i64 m, .int .i64 b] w (PutIn g h n a b f w) := by
  have LS := Lib.hid (fun W f' (s' : SrtAt W g h n f') i j hi hj => plessD W g h n c f' s' hn i j hi hj)
  have RT := Lib.hid (fun W f' (s' : SrtAt W g h n f') x y z h1 h2 h3 => protate W g h n c f' s' hn x y z h1 h2 h3)
  have ML := Lib.hid (dLess (.slice (some ⟨g, 0, none⟩) n c) (.slice (some ⟨h, 0, none⟩) n n))
  have S0 := Lib.hid s
  have HH := Lib.hid (show ∀ q, lo ≤ q → q ≤ hi → (q = lo ∨ ltD (f (t - q)) (f (q - 1)) = false) → (q = hi ∨ ltD (f (t - 1 - q)) (f q) = true) → SymCut a m b mid t q (t - q) f from fun q h1 h2 h3 h4 => by
    have e1 : q + (t - q - m) = mid := by omega
    refine ⟨by omega, by omega, by omega, by omega, by omega, by omega, by omega, ?_⟩
    have := cut_of ordD s1 s2 (s := q) (e := t - q) (by omega) (by omega) (by omega) (by omega) (fun c1 c2 => by
      rcases h3 with h3 | h3
      · omega
      · exact h3) (fun c1 c2 => by
      rcases h4 with h4 | h4
      · omega
      · have e2 : t - 1 - q = t - q - 1 := by omega
        rw [e2] at h4
        exact ordD.asym _ _ h4)
    rw [e1] at this
    exact this)
  have g1 : (((m : Int) - (a : Int)) == 1) = false := by simp; omega
  have g2 : ¬ ((m : Int) - (a : Int) = 1) := by omega
  have g3 : (((b : Int) - (m : Int)) == 1) = false := by simp; omega
  have g4 : ¬ ((b : Int) - (m : Int) = 1) := by omega
  have em : ((a : Int) + (b : Int)) / 2 = (mid : Int) := by omega
  have et : (mid : Int) + (m : Int) = (t : Int) := by omega
  have ep : (t : Int) - 1 = (p : Int) := by omega
  have gt : ¬ (mid : Int) < (m : Int) := by omega
  have BD := Lib.hid (show lo ≤ hi ∧ hi ≤ m ∧ hi ≤ mid ∧ a ≤ lo ∧ t ≤ lo + b ∧ mid + 1 ≤ b ∧ a + 1 ≤ mid ∧ mid - a ≤ N ∧ b - mid ≤ N ∧ hi + m ≤ t from by omega)
  have HHI := Lib.hid hhi
  have HLO := Lib.hid hlo
  have HP := Lib.hid hp
  have hm1000 : m ≤ 1000 := by omega
  have hmid1000 : mid ≤ 1000 := by omega
  have ht2000 : t ≤ 2000 := by omega
  have hp2000 : p ≤ 2000 := by omega
  clear s s1 s2 hmid ht hp hmm hlo hhi
  go_enter Try.func44, Try.ntmps44
  go_wp2_with fail
  clear g1 g2 g3 g4 em ep gt
  go_loopg [18, 19] (hi - lo) (fun q iv jv wr => ∃ i j : Nat, iv = .int .i64 (i : Int) ∧ jv = .int .i64 (j : Int) ∧ lo ≤ i ∧ i ≤ j ∧ j ≤ hi ∧ j - i ≤ q ∧ KeepGH g h w wr ∧ SrtAt wr g h n f ∧ Hid (i = lo ∨ ltD (f (t - i)) (f (i - 1)) = false) ∧ Hid (j = hi ∨ ltD (f (t - 1 - j)) (f j) = true))
  case atStart => have hB := BD.out; exact ⟨lo, hi, by rw [HLO.out], by rw [HHI.out], Nat.le_refl _, by omega, Nat.le_refl _, Nat.le_refl _, KeepGH.refl _ _ _, S0.out, Lib.hid (.inl rfl), Lib.hid (.inl rfl)⟩
  case round =>
    obtain ⟨i, j, rfl, rfl, hmi, hij, hjb, hq, hk, hs, CA, CB⟩ := hrel
    have HQ := Lib.hid hq
    have KR := Lib.hid hk
    have SR := Lib.hid hs
    have jl : j ≤ 1000 := by have := BD.out; omega
    clear hq hk hs
    by_cases hlt : i < j
    · obtain ⟨x, hx⟩ : ∃ x, x = (i + j) / 2 := ⟨_, rfl⟩
      have xe : ((i : Int) + (j : Int)) / 2 = (x : Int) := by omega
      have x0 : i ≤ x := by omega
      have x1 : x < j := by omega
      obtain ⟨y, hy⟩ : ∃ y, p = y + x := ⟨p - x, by have := BD.out; have := HP.out; omega⟩
      have ye : (p : Int) - (x : Int) = (y : Int) := by omega
      have yt : t - 1 - x = y := by have := HP.out; omega
      have yt2 : t - (x + 1) = y := by omega
      have LL := Lib.hid (LS.out wr f SR.out y x (by have := BD.out; have := HP.out; omega) (by have := BD.out; omega))
      have lm := ML.out wr
      obtain ⟨bb, hbb⟩ : ∃ bb, bb = ltD (f y) (f x) := ⟨_, rfl⟩
      rw [← hbb] at LL
      have HBB := Lib.hid hbb
      have YT := Lib.hid yt
      have YT2 := Lib.hid yt2
      clear hx hbb hy yt yt2
      cases bb
      · have NA := Lib.hid (show x + 1 = lo ∨ ltD (f (t - (x + 1))) (f (x + 1 - 1)) = false from .inr (by rw [YT2.out]; exact HBB.out.symm))
        clear CA
        go_wp2_with fail
        with_reducible refine LL.out.mono ?_
        rintro e w2 ⟨rfl, h2⟩
        have S2 := Lib.hid (SR.out.below h2)
        have K2 := Lib.hid (KR.out.trans (KeepGH.of h2))
        clear h2 lm
        go_wp2_with fail
        go_roundg (j - (x + 1))
        case rel => exact ⟨x + 1, j, rfl, rfl, by omega, by omega, hjb, Nat.le_refl _, K2.out, S2.out, NA, CB⟩
        case measure => have := HQ.out; omega
      · have NB := Lib.hid (show x = hi ∨ ltD (f (t - 1 - x)) (f x) = true from .inr (by rw [YT.out]; exact HBB.out.symm))
        clear CB
        go_wp2_with fail
        with_reducible refine LL.out.mono ?_
        rintro e w2 ⟨rfl, h2⟩
        have S2 := Lib.hid (SR.out.below h2)
        have K2 := Lib.hid (KR.out.trans (KeepGH.of h2))
        clear h2 lm
        go_wp2_with fail
        go_roundg (x - i)
        case rel => exact ⟨i, x, rfl, rfl, hmi, x0, by omega, Nat.le_refl _, K2.out, S2.out, CA, NB⟩
        case measure => have := HQ.out; omega
    · have hji : j = i := by omega
      subst hji
      have SC := Lib.hid (HH.out j hmi hjb CA.out CB.out)
      obtain ⟨e, he⟩ : ∃ e, e = t - j := ⟨_, rfl⟩
      rw [← he] at SC
      have ee : (t : Int) - (j : Int) = (e : Int) := by have := SC.out.te; omega
      obtain ⟨G, hG⟩ : ∃ G, G = rotF f j m e := ⟨_, rfl⟩
      have CT := Lib.hid (show CutF ltD a j mid e b G from by rw [hG]; exact SC.out.cut)
      have PG := Lib.hid (show PermF a b f G from by
        rw [hG]
        exact (PermF.rot (a := j) (b := e) (m := m) SC.out.sm SC.out.me).mono SC.out.am SC.out.eb)
      have GE := Lib.hid hG
      have SCN := Lib.hid (show a ≤ j ∧ j ≤ m ∧ j ≤ mid ∧ m ≤ e ∧ e ≤ b ∧ mid ≤ e from ⟨SC.out.am, SC.out.sm, SC.out.smid, SC.out.me, SC.out.eb, SC.out.mide⟩)
      have KR0 := KR
      have SR0 := SR
      clear CA CB SC he hG HH LS ML HQ hlt hij KR SR
      by_cases ho1 : j < m
      · by_cases ho2 : m < e
        · have o1 : (j : Int) < (m : Int) := by omega
          have o2 : (m : Int) < (e : Int) := by omega
          have CO := Lib.hid (RT.out wr f SR0.out j m e ho1 ho2 (by have := SCN.out; omega))
          rw [← GE.out] at CO
          go_wp2_with fail
          with_reducible refine CO.out.mono ?_
          rintro e3 w3 ⟨rfl, k3, s3⟩
          have K3 := Lib.hid (KR0.out.trans k3)
          have S3 := Lib.hid s3
          clear k3 s3 CO
          by_cases hl1 : a < j
          · by_cases hl2 : j < mid
            · have l1 : (a : Int) < (j : Int) := by omega
              have l2 : (j : Int) < (mid : Int) := by omega
              have CL := Lib.hid (IH.call _ G a j mid S3.out (by have := BD.out; omega) hl1 hl2 (by have := BD.out; omega) CT.out.p1 CT.out.p2)
              go_wp2_with fail
              with_reducible refine CL.out.mono ?_
              rintro e4 w4 ⟨rfl, k4, G4, s4, p4, t4⟩
              have K4 := Lib.hid (K3.out.trans k4)
              have S4 := Lib.hid s4
              have LLL := And.intro p4 t4
              clear k4 s4
              by_cases hr1 : mid < e
              · by_cases hr2 : e < b
                · have r1 : (mid : Int) < (e : Int) := by omega
                  have r2 : (e : Int) < (b : Int) := by omega
                  have RO := right_of CT.out LLL.1 SCN.out.2.2.2.2.2
                  have CR := Lib.hid (IH.call _ G4 mid e b S4.out (by have := BD.out; omega) hr1 hr2 hb RO.1 RO.2)
                  clear RO
                  go_wp2_with fail
                  with_reducible refine CR.out.mono ?_
                  rintro e5 w5 ⟨rfl, k5, G5, s5, p5, t5⟩
                  have K5 := Lib.hid (K4.out.trans k5)
                  have S5 := Lib.hid s5
                  have RR := And.intro p5 t5
                  clear k5 s5
                  have FN := Lib.hid (cut_join (show a ≤ mid by have := BD.out; omega) (show mid ≤ b by have := BD.out; omega) CT.out.cross LLL.1 LLL.2 RR.1 RR.2)
                  go_wp2_with fail
                  exact bodyPost_end (v := .tuple #[]) (by simp [results, Try.results44, go_sem]) rfl ⟨rfl, K5.out, _, S5.out, PG.out.trans FN.out.2, FN.out.1⟩
                · have r1 : (mid : Int) < (e : Int) := by omega
                  have r2 : ¬ (e : Int) < (b : Int) := by omega
                  have RR := And.intro (PermF.refl mid b G4) (right_all (right_of CT.out LLL.1 SCN.out.2.2.2.2.2) (.inr (show b ≤ e by omega)))
                  have FN := Lib.hid (cut_join (show a ≤ mid by have := BD.out; omega) (show mid ≤ b by have := BD.out; omega) CT.out.cross LLL.1 LLL.2 RR.1 RR.2)
                  go_wp2_with fail
                  exact bodyPost_end (v := .tuple #[]) (by simp [results, Try.results44, go_sem]) rfl ⟨rfl, K4.out, _, S4.out, PG.out.trans FN.out.2, FN.out.1⟩
              · have r1 : ¬ (mid : Int) < (e : Int) := by omega
                have RR := And.intro (PermF.refl mid b G4) (right_all (right_of CT.out LLL.1 SCN.out.2.2.2.2.2) (.inl (show e ≤ mid by omega)))
                have FN := Lib.hid (cut_join (show a ≤ mid by have := BD.out; omega) (show mid ≤ b by have := BD.out; omega) CT.out.cross LLL.1 LLL.2 RR.1 RR.2)
                go_wp2_with fail
                exact bodyPost_end (v := .tuple #[]) (by simp [results, Try.results44, go_sem]) rfl ⟨rfl, K4.out, _, S4.out, PG.out.trans FN.out.2, FN.out.1⟩
            · have l1 : (a : Int) < (j : Int) := by omega
              have l2 : ¬ (j : Int) < (mid : Int) := by omega
              have LLL := And.intro (PermF.refl a mid G) (CT.out.left (.inr (show mid ≤ j by omega)))
              by_cases hr1 : mid < e
              · by_cases hr2 : e < b
                · have r1 : (mid : Int) < (e : Int) := by omega
                  have r2 : (e : Int) < (b : Int) := by omega
                  have RO := right_of CT.out LLL.1 SCN.out.2.2.2.2.2
                  have CR := Lib.hid (IH.call _ G mid e b S3.out (by have := BD.out; omega) hr1 hr2 hb RO.1 RO.2)
                  clear RO
                  go_wp2_with fail
                  with_reducible refine CR.out.mono ?_
                  rintro e5 w5 ⟨rfl, k5, G5, s5, p5, t5⟩
                  have K5 := Lib.hid (K3.out.trans k5)
                  have S5 := Lib.hid s5
                  have RR := And.intro p5 t5
                  clear k5 s5
                  have FN := Lib.hid (cut_join (show a ≤ mid by have := BD.out; omega) (show mid ≤ b by have := BD.out; omega) CT.out.cross LLL.1 LLL.2 RR.1 RR.2)
                  go_wp2_with fail
                  exact bodyPost_end (v := .tuple #[]) (by simp [results, Try.results44, go_sem]) rfl ⟨rfl, K5.out, _, S5.out, PG.out.trans FN.out.2, FN.out.1⟩
                · have r1 : (mid : Int) < (e : Int) := by omega
                  have r2 : ¬ (e : Int) < (b : Int) := by omega
                  have RR := And.intro (PermF.refl mid b G) (right_all (right_of CT.out LLL.1 SCN.out.2.2.2.2.2) (.inr (show b ≤ e by omega)))
                  have FN := Lib.hid (cut_join (show a ≤ mid by have := BD.out; omega) (show mid ≤ b by have := BD.out; omega) CT.out.cross LLL.1 LLL.2 RR.1 RR.2)
                  go_wp2_with fail
                  exact bodyPost_end (v := .tuple #[]) (by simp [results, Try.results44, go_sem]) rfl ⟨rfl, K3.out, _, S3.out, PG.out.trans FN.out.2, FN.out.1⟩
              · have r1 : ¬ (mid : Int) < (e : Int) := by omega
                have RR := And.intro (PermF.refl mid b G) (right_all (right_of CT.out LLL.1 SCN.out.2.2.2.2.2) (.inl (show e ≤ mid by omega)))
                have FN := Lib.hid (cut_join (show a ≤ mid by have := BD.out; omega) (show mid ≤ b by have := BD.out; omega) CT.out.cross LLL.1 LLL.2 RR.1 RR.2)
                go_wp2_with fail
                exact bodyPost_end (v := .tuple #[]) (by simp [results, Try.results44, go_sem]) rfl ⟨rfl, K3.out, _, S3.out, PG.out.trans FN.out.2, FN.out.1⟩
          · have l1 : ¬ (a : Int) < (j : Int) := by omega
            have LLL := And.intro (PermF.refl a mid G) (CT.out.left (.inl (show j ≤ a by omega)))
            by_cases hr1 : mid < e
            · by_cases hr2 : e < b
              · have r1 : (mid : Int) < (e : Int) := by omega
                have r2 : (e : Int) < (b : Int) := by omega
                have RO := right_of CT.out LLL.1 SCN.out.2.2.2.2.2
                have CR := Lib.hid (IH.call _ G mid e b S3.out (by have := BD.out; omega) hr1 hr2 hb RO.1 RO.2)
                clear RO
                go_wp2_with fail
                with_reducible refine CR.out.mono ?_
                rintro e5 w5 ⟨rfl, k5, G5, s5, p5, t5⟩
                have K5 := Lib.hid (K3.out.trans k5)
                have S5 := Lib.hid s5
                have RR := And.intro p5 t5
                clear k5 s5
                have FN := Lib.hid (cut_join (show a ≤ mid by have := BD.out; omega) (show mid ≤ b by have := BD.out; omega) CT.out.cross LLL.1 LLL.2 RR.1 RR.2)
                go_wp2_with fail
                exact bodyPost_end (v := .tuple #[]) (by simp [results, Try.results44, go_sem]) rfl ⟨rfl, K5.out, _, S5.out, PG.out.trans FN.out.2, FN.out.1⟩
              · have r1 : (mid : Int) < (e : Int) := by omega
                have r2 : ¬ (e : Int) < (b : Int) := by omega
                have RR := And.intro (PermF.refl mid b G) (right_all (right_of CT.out LLL.1 SCN.out.2.2.2.2.2) (.inr (show b ≤ e by omega)))
                have FN := Lib.hid (cut_join (show a ≤ mid by have := BD.out; omega) (show mid ≤ b by have := BD.out; omega) CT.out.cross LLL.1 LLL.2 RR.1 RR.2)
                go_wp2_with fail
                exact bodyPost_end (v := .tuple #[]) (by simp [results, Try.results44, go_sem]) rfl ⟨rfl, K3.out, _, S3.out, PG.out.trans FN.out.2, FN.out.1⟩
            · have r1 : ¬ (mid : Int) < (e : Int) := by omega
              have RR := And.intro (PermF.refl mid b G) (right_all (right_of CT.out LLL.1 SCN.out.2.2.2.2.2) (.inl (show e ≤ mid by omega)))
              have FN := Lib.hid (cut_join (show a ≤ mid by have := BD.out; omega) (show mid ≤ b by have := BD.out; omega) CT.out.cross LLL.1 LLL.2 RR.1 RR.2)
              go_wp2_with fail
              exact bodyPost_end (v := .tuple #[]) (by simp [results, Try.results44, go_sem]) rfl ⟨rfl, K3.out, _, S3.out, PG.out.trans FN.out.2, FN.out.1⟩
        · have o1 : (j : Int) < (m : Int) := by omega
          have o2 : ¬ (m : Int) < (e : Int) := by omega
          have S3 := Lib.hid (show SrtAt wr g h n G from by
            rw [GE.out, show e = m by have := SCN.out; omega, rot_nought2]; exact SR0.out)
          by_cases hl1 : a < j
          · by_cases hl2 : j < mid
            · have l1 : (a : Int) < (j : Int) := by omega
              have l2 : (j : Int) < (mid : Int) := by omega
              have CL := Lib.hid (IH.call _ G a j mid S3.out (by have := BD.out; omega) hl1 hl2 (by have := BD.out; omega) CT.out.p1 CT.out.p2)
              go_wp2_with fail
              with_reducible refine CL.out.mono ?_
              rintro e4 w4 ⟨rfl, k4, G4, s4, p4, t4⟩
              have K4 := Lib.hid (KR0.out.trans k4)
              have S4 := Lib.hid s4
              have LLL := And.intro p4 t4
              clear k4 s4
              by_cases hr1 : mid < e
              · by_cases hr2 : e < b
                · have r1 : (mid : Int) < (e : Int) := by omega
                  have r2 : (e : Int) < (b : Int) := by omega
                  have RO := right_of CT.out LLL.1 SCN.out.2.2.2.2.2
                  have CR := Lib.hid (IH.call _ G4 mid e b S4.out (by have := BD.out; omega) hr1 hr2 hb RO.1 RO.2)
                  clear RO
                  go_wp2_with fail
                  with_reducible refine CR.out.mono ?_
                  rintro e5 w5 ⟨rfl, k5, G5, s5, p5, t5⟩
                  have K5 := Lib.hid (K4.out.trans k5)
                  have S5 := Lib.hid s5
                  have RR := And.intro p5 t5
                  clear k5 s5
                  have FN := Lib.hid (cut_join (show a ≤ mid by have := BD.out; omega) (show mid ≤ b by have := BD.out; omega) CT.out.cross LLL.1 LLL.2 RR.1 RR.2)
                  go_wp2_with fail
                  exact bodyPost_end (v := .tuple #[]) (by simp [results, Try.results44, go_sem]) rfl ⟨rfl, K5.out, _, S5.out, PG.out.trans FN.out.2, FN.out.1⟩
                · have r1 : (mid : Int) < (e : Int) := by omega
                  have r2 : ¬ (e : Int) < (b : Int) := by omega
                  have RR := And.intro (PermF.refl mid b G4) (right_all (right_of CT.out LLL.1 SCN.out.2.2.2.2.2) (.inr (show b ≤ e by omega)))
                  have FN := Lib.hid (cut_join (show a ≤ mid by have := BD.out; omega) (show mid ≤ b by have := BD.out; omega) CT.out.cross LLL.1 LLL.2 RR.1 RR.2)
                  go_wp2_with fail
                  exact bodyPost_end (v := .tuple #[]) (by simp [results, Try.results44, go_sem]) rfl ⟨rfl, K4.out, _, S4.out, PG.out.trans FN.out.2, FN.out.1⟩
              · have r1 : ¬ (mid : Int) < (e : Int) := by omega
                have RR := And.intro (PermF.refl mid b G4) (right_all (right_of CT.out LLL.1 SCN.out.2.2.2.2.2) (.inl (show e ≤ mid by omega)))
                have FN := Lib.hid (cut_join (show a ≤ mid by have := BD.out; omega) (show mid ≤ b by have := BD.out; omega) CT.out.cross LLL.1 LLL.2 RR.1 RR.2)
                go_wp2_with fail
                exact bodyPost_end (v := .tuple #[]) (by simp [results, Try.results44, go_sem]) rfl ⟨rfl, K4.out, _, S4.out, PG.out.trans FN.out.2, FN.out.1⟩
            · have l1 : (a : Int) < (j : Int) := by omega
              have l2 : ¬ (j : Int) < (mid : Int) := by omega
              have LLL := And.intro (PermF.refl a mid G) (CT.out.left (.inr (show mid ≤ j by omega)))
              by_cases hr1 : mid < e
              · by_cases hr2 : e < b
                · have r1 : (mid : Int) < (e : Int) := by omega
                  have r2 : (e : Int) < (b : Int) := by omega
                  have RO := right_of CT.out LLL.1 SCN.out.2.2.2.2.2
                  have CR := Lib.hid (IH.call _ G mid e b S3.out (by have := BD.out; omega) hr1 hr2 hb RO.1 RO.2)
                  clear RO
                  go_wp2_with fail
                  with_reducible refine CR.out.mono ?_
                  rintro e5 w5 ⟨rfl, k5, G5, s5, p5, t5⟩
                  have K5 := Lib.hid (KR0.out.trans k5)
                  have S5 := Lib.hid s5
                  have RR := And.intro p5 t5
                  clear k5 s5
                  have FN := Lib.hid (cut_join (show a ≤ mid by have := BD.out; omega) (show mid ≤ b by have := BD.out; omega) CT.out.cross LLL.1 LLL.2 RR.1 RR.2)
                  go_wp2_with fail
                  exact bodyPost_end (v := .tuple #[]) (by simp [results, Try.results44, go_sem]) rfl ⟨rfl, K5.out, _, S5.out, PG.out.trans FN.out.2, FN.out.1⟩
                · have r1 : (mid : Int) < (e : Int) := by omega
                  have r2 : ¬ (e : Int) < (b : Int) := by omega
                  have RR := And.intro (PermF.refl mid b G) (right_all (right_of CT.out LLL.1 SCN.out.2.2.2.2.2) (.inr (show b ≤ e by omega)))
                  have FN := Lib.hid (cut_join (show a ≤ mid by have := BD.out; omega) (show mid ≤ b by have := BD.out; omega) CT.out.cross LLL.1 LLL.2 RR.1 RR.2)
                  go_wp2_with fail
                  exact bodyPost_end (v := .tuple #[]) (by simp [results, Try.results44, go_sem]) rfl ⟨rfl, KR0.out, _, S3.out, PG.out.trans FN.out.2, FN.out.1⟩
              · have r1 : ¬ (mid : Int) < (e : Int) := by omega
                have RR := And.intro (PermF.refl mid b G) (right_all (right_of CT.out LLL.1 SCN.out.2.2.2.2.2) (.inl (show e ≤ mid by omega)))
                have FN := Lib.hid (cut_join (show a ≤ mid by have := BD.out; omega) (show mid ≤ b by have := BD.out; omega) CT.out.cross LLL.1 LLL.2 RR.1 RR.2)
                go_wp2_with fail
                exact bodyPost_end (v := .tuple #[]) (by simp [results, Try.results44, go_sem]) rfl ⟨rfl, KR0.out, _, S3.out, PG.out.trans FN.out.2, FN.out.1⟩
          · have l1 : ¬ (a : Int) < (j : Int) := by omega
            have LLL := And.intro (PermF.refl a mid G) (CT.out.left (.inl (show j ≤ a by omega)))
            by_cases hr1 : mid < e
            · by_cases hr2 : e < b
              · have r1 : (mid : Int) < (e : Int) := by omega
                have r2 : (e : Int) < (b : Int) := by omega
                have RO := right_of CT.out LLL.1 SCN.out.2.2.2.2.2
                have CR := Lib.hid (IH.call _ G mid e b S3.out (by have := BD.out; omega) hr1 hr2 hb RO.1 RO.2)
                clear RO
                go_wp2_with fail
                with_reducible refine CR.out.mono ?_
                rintro e5 w5 ⟨rfl, k5, G5, s5, p5, t5⟩
                have K5 := Lib.hid (KR0.out.trans k5)
                have S5 := Lib.hid s5
                have RR := And.intro p5 t5
                clear k5 s5
                have FN := Lib.hid (cut_join (show a ≤ mid by have := BD.out; omega) (show mid ≤ b by have := BD.out; omega) CT.out.cross LLL.1 LLL.2 RR.1 RR.2)
                go_wp2_with fail
                exact bodyPost_end (v := .tuple #[]) (by simp [results, Try.results44, go_sem]) rfl ⟨rfl, K5.out, _, S5.out, PG.out.trans FN.out.2, FN.out.1⟩
              · have r1 : (mid : Int) < (e : Int) := by omega
                have r2 : ¬ (e : Int) < (b : Int) := by omega
                have RR := And.intro (PermF.refl mid b G) (right_all (right_of CT.out LLL.1 SCN.out.2.2.2.2.2) (.inr (show b ≤ e by omega)))
                have FN := Lib.hid (cut_join (show a ≤ mid by have := BD.out; omega) (show mid ≤ b by have := BD.out; omega) CT.out.cross LLL.1 LLL.2 RR.1 RR.2)
                go_wp2_with fail
                exact bodyPost_end (v := .tuple #[]) (by simp [results, Try.results44, go_sem]) rfl ⟨rfl, KR0.out, _, S3.out, PG.out.trans FN.out.2, FN.out.1⟩
            · have r1 : ¬ (mid : Int) < (e : Int) := by omega
              have RR := And.intro (PermF.refl mid b G) (right_all (right_of CT.out LLL.1 SCN.out.2.2.2.2.2) (.inl (show e ≤ mid by omega)))
              have FN := Lib.hid (cut_join (show a ≤ mid by have := BD.out; omega) (show mid ≤ b by have := BD.out; omega) CT.out.cross LLL.1 LLL.2 RR.1 RR.2)
              go_wp2_with fail
              exact bodyPost_end (v := .tuple #[]) (by simp [results, Try.results44, go_sem]) rfl ⟨rfl, KR0.out, _, S3.out, PG.out.trans FN.out.2, FN.out.1⟩
      · have o1 : ¬ (j : Int) < (m : Int) := by omega
        have S3 := Lib.hid (show SrtAt wr g h n G from by
          rw [GE.out, show j = m by have := SCN.out; omega, rot_nought f m e (by have := SCN.out; omega)]; exact SR0.out)
        by_cases hl1 : a < j
        · by_cases hl2 : j < mid
          · have l1 : (a : Int) < (j : Int) := by omega
            have l2 : (j : Int) < (mid : Int) := by omega
            have CL := Lib.hid (IH.call _ G a j mid S3.out (by have := BD.out; omega) hl1 hl2 (by have := BD.out; omega) CT.out.p1 CT.out.p2)
            go_wp2_with fail
            with_reducible refine CL.out.mono ?_
            rintro e4 w4 ⟨rfl, k4, G4, s4, p4, t4⟩
            have K4 := Lib.hid (KR0.out.trans k4)
            have S4 := Lib.hid s4
            have LLL := And.intro p4 t4
            clear k4 s4
            by_cases hr1 : mid < e
            · by_cases hr2 : e < b
              · have r1 : (mid : Int) < (e : Int) := by omega
                have r2 : (e : Int) < (b : Int) := by omega
                have RO := right_of CT.out LLL.1 SCN.out.2.2.2.2.2
                have CR := Lib.hid (IH.call _ G4 mid e b S4.out (by have := BD.out; omega) hr1 hr2 hb RO.1 RO.2)
                clear RO
                go_wp2_with fail
                with_reducible refine CR.out.mono ?_
                rintro e5 w5 ⟨rfl, k5, G5, s5, p5, t5⟩
                have K5 := Lib.hid (K4.out.trans k5)
                have S5 := Lib.hid s5
                have RR := And.intro p5 t5
                clear k5 s5
                have FN := Lib.hid (cut_join (show a ≤ mid by have := BD.out; omega) (show mid ≤ b by have := BD.out; omega) CT.out.cross LLL.1 LLL.2 RR.1 RR.2)
                go_wp2_with fail
                exact bodyPost_end (v := .tuple #[]) (by simp [results, Try.results44, go_sem]) rfl ⟨rfl, K5.out, _, S5.out, PG.out.trans FN.out.2, FN.out.1⟩
              · have r1 : (mid : Int) < (e : Int) := by omega
                have r2 : ¬ (e : Int) < (b : Int) := by omega
                have RR := And.intro (PermF.refl mid b G4) (right_all (right_of CT.out LLL.1 SCN.out.2.2.2.2.2) (.inr (show b ≤ e by omega)))
                have FN := Lib.hid (cut_join (show a ≤ mid by have := BD.out; omega) (show mid ≤ b by have := BD.out; omega) CT.out.cross LLL.1 LLL.2 RR.1 RR.2)
                go_wp2_with fail
                exact bodyPost_end (v := .tuple #[]) (by simp [results, Try.results44, go_sem]) rfl ⟨rfl, K4.out, _, S4.out, PG.out.trans FN.out.2, FN.out.1⟩
            · have r1 : ¬ (mid : Int) < (e : Int) := by omega
              have RR := And.intro (PermF.refl mid b G4) (right_all (right_of CT.out LLL.1 SCN.out.2.2.2.2.2) (.inl (show e ≤ mid by omega)))
              have FN := Lib.hid (cut_join (show a ≤ mid by have := BD.out; omega) (show mid ≤ b by have := BD.out; omega) CT.out.cross LLL.1 LLL.2 RR.1 RR.2)
              go_wp2_with fail
              exact bodyPost_end (v := .tuple #[]) (by simp [results, Try.results44, go_sem]) rfl ⟨rfl, K4.out, _, S4.out, PG.out.trans FN.out.2, FN.out.1⟩
          · have l1 : (a : Int) < (j : Int) := by omega
            have l2 : ¬ (j : Int) < (mid : Int) := by omega
            have LLL := And.intro (PermF.refl a mid G) (CT.out.left (.inr (show mid ≤ j by omega)))
            by_cases hr1 : mid < e
            · by_cases hr2 : e < b
              · have r1 : (mid : Int) < (e : Int) := by omega
                have r2 : (e : Int) < (b : Int) := by omega
                have RO := right_of CT.out LLL.1 SCN.out.2.2.2.2.2
                have CR := Lib.hid (IH.call _ G mid e b S3.out (by have := BD.out; omega) hr1 hr2 hb RO.1 RO.2)
                clear RO
                go_wp2_with fail
                with_reducible refine CR.out.mono ?_
                rintro e5 w5 ⟨rfl, k5, G5, s5, p5, t5⟩
                have K5 := Lib.hid (KR0.out.trans k5)
                have S5 := Lib.hid s5
                have RR := And.intro p5 t5
                clear k5 s5
                have FN := Lib.hid (cut_join (show a ≤ mid by have := BD.out; omega) (show mid ≤ b by have := BD.out; omega) CT.out.cross LLL.1 LLL.2 RR.1 RR.2)
                go_wp2_with fail
                exact bodyPost_end (v := .tuple #[]) (by simp [results, Try.results44, go_sem]) rfl ⟨rfl, K5.out, _, S5.out, PG.out.trans FN.out.2, FN.out.1⟩
              · have r1 : (mid : Int) < (e : Int) := by omega
                have r2 : ¬ (e : Int) < (b : Int) := by omega
                have RR := And.intro (PermF.refl mid b G) (right_all (right_of CT.out LLL.1 SCN.out.2.2.2.2.2) (.inr (show b ≤ e by omega)))
                have FN := Lib.hid (cut_join (show a ≤ mid by have := BD.out; omega) (show mid ≤ b by have := BD.out; omega) CT.out.cross LLL.1 LLL.2 RR.1 RR.2)
                go_wp2_with fail
                exact bodyPost_end (v := .tuple #[]) (by simp [results, Try.results44, go_sem]) rfl ⟨rfl, KR0.out, _, S3.out, PG.out.trans FN.out.2, FN.out.1⟩
            · have r1 : ¬ (mid : Int) < (e : Int) := by omega
              have RR := And.intro (PermF.refl mid b G) (right_all (right_of CT.out LLL.1 SCN.out.2.2.2.2.2) (.inl (show e ≤ mid by omega)))
              have FN := Lib.hid (cut_join (show a ≤ mid by have := BD.out; omega) (show mid ≤ b by have := BD.out; omega) CT.out.cross LLL.1 LLL.2 RR.1 RR.2)
              go_wp2_with fail
              exact bodyPost_end (v := .tuple #[]) (by simp [results, Try.results44, go_sem]) rfl ⟨rfl, KR0.out, _, S3.out, PG.out.trans FN.out.2, FN.out.1⟩
        · have l1 : ¬ (a : Int) < (j : Int) := by omega
          have LLL := And.intro (PermF.refl a mid G) (CT.out.left (.inl (show j ≤ a by omega)))
          by_cases hr1 : mid < e
          · by_cases hr2 : e < b
            · have r1 : (mid : Int) < (e : Int) := by omega
              have r2 : (e : Int) < (b : Int) := by omega
              have RO := right_of CT.out LLL.1 SCN.out.2.2.2.2.2
              have CR := Lib.hid (IH.call _ G mid e b S3.out (by have := BD.out; omega) hr1 hr2 hb RO.1 RO.2)
              clear RO
              go_wp2_with fail
              with_reducible refine CR.out.mono ?_
              rintro e5 w5 ⟨rfl, k5, G5, s5, p5, t5⟩
              have K5 := Lib.hid (KR0.out.trans k5)
              have S5 := Lib.hid s5
              have RR := And.intro p5 t5
              clear k5 s5
              have FN := Lib.hid (cut_join (show a ≤ mid by have := BD.out; omega) (show mid ≤ b by have := BD.out; omega) CT.out.cross LLL.1 LLL.2 RR.1 RR.2)
              go_wp2_with fail
              exact bodyPost_end (v := .tuple #[]) (by simp [results, Try.results44, go_sem]) rfl ⟨rfl, K5.out, _, S5.out, PG.out.trans FN.out.2, FN.out.1⟩
            · have r1 : (mid : Int) < (e : Int) := by omega
              have r2 : ¬ (e : Int) < (b : Int) := by omega
              have RR := And.intro (PermF.refl mid b G) (right_all (right_of CT.out LLL.1 SCN.out.2.2.2.2.2) (.inr (show b ≤ e by omega)))
              have FN := Lib.hid (cut_join (show a ≤ mid by have := BD.out; omega) (show mid ≤ b by have := BD.out; omega) CT.out.cross LLL.1 LLL.2 RR.1 RR.2)
              go_wp2_with fail
              exact bodyPost_end (v := .tuple #[]) (by simp [results, Try.results44, go_sem]) rfl ⟨rfl, KR0.out, _, S3.out, PG.out.trans FN.out.2, FN.out.1⟩
          · have r1 : ¬ (mid : Int) < (e : Int) := by omega
            have RR := And.intro (PermF.refl mid b G) (right_all (right_of CT.out LLL.1 SCN.out.2.2.2.2.2) (.inl (show e ≤ mid by omega)))
            have FN := Lib.hid (cut_join (show a ≤ mid by have := BD.out; omega) (show mid ≤ b by have := BD.out; omega) CT.out.cross LLL.1 LLL.2 RR.1 RR.2)
            go_wp2_with fail
            exact bodyPost_end (v := .tuple #[]) (by simp [results, Try.results44, go_sem]) rfl ⟨rfl, KR0.out, _, S3.out, PG.out.trans FN.out.2, FN.out.1⟩
end
/-- Whatever the rows are. -/
theorem psym_all (g h n c : Nat) (hn : n ≤ 1000) : ∀ N, SymOK g h n c N
  | 0 => fun W f a m b s hN ham hmb hb s1 s2 => by omega
  | N + 1 => fun W f a m b s hN ham hmb hb s1 s2 => by
    have IH := psym_all g h n c hn N
    by_cases h1 : m = a + 1
    · exact psym1 W g h n c f s hn a m b h1 hmb hb s2
    · by_cases h2 : b = m + 1
      · exact psym2 W g h n c f s hn a m b (by omega) h2 hb s1
      · by_cases h3 : (a + b) / 2 < m
        · exact psym3A W g h n c N IH f s hn a m b ((a + b) / 2) ((a + b) / 2 + m) ((a + b) / 2 + m - 1) ((a + b) / 2 + m - b) ((a + b) / 2) hN (by omega) (by omega) hb s1 s2 rfl rfl (by omega) h3 (by omega) rfl
        · exact psym3B W g h n c N IH f s hn a m b ((a + b) / 2) ((a + b) / 2 + m) ((a + b) / 2 + m - 1) a m hN (by omega) (by omega) hb s1 s2 rfl rfl (by omega) (by omega) rfl rfl
end Go.Proofs.Ytmiadhcmhnjmfaa
