/- The law of brackets, walked. -/
import Derived.Test.YtkbbhgipajhbnaaDoorParBe
import Derived.Test.YtkbbhgipajhbnaaDoorParQ
import Derived.Test.YtkbbhgipajhbnaaDoorSame
import Derived.Deep.DeepCutAuto
namespace Go.Proofs.YtkbbhgipajhbnaaDoor
open Go.RowKit
set_option linter.unusedVariables false
set_option linter.unusedSimpArgs false
/-- One block with one attribute, as it was told. -/
theorem parsed_attr {w : World} {v : Value} {k : Int} {lb nm : ByteArray} {l : List NodeL} (h : Parsed w v [.mk k lb [⟨nm, l⟩] []]) : ∃ g cap ga acap nv, v = .slice (some ⟨g, 0, none⟩) 1 cap ∧ w.cell? ⟨g, 2, none⟩ = some (.slice (some ⟨ga, 0, none⟩) 1 acap) ∧ w.cell? ⟨ga, 1, none⟩ = some nv ∧ NodesRd w nv l := by
  rcases h with ⟨h, -⟩ | ⟨C, b, ⟨xs, o, r⟩, hw⟩
  · cases h
  · obtain ⟨g, cap, rfl⟩ := own_shape o
    obtain ⟨av, bv, rest, rfl, ⟨ys, oa, ra⟩, -, -⟩ := r
    have hc := World.ownsRow.cells (g := g) o rfl
    have hadd : ∀ g j, (⟨g, 0, none⟩ : Addr).add j = ⟨g, j, none⟩ := fun g j => by unfold Addr.add; split <;> simp_all
    obtain ⟨ga, acap, rfl⟩ := own_shape oa
    obtain ⟨nv, rest2, rfl, hni, -⟩ := ra
    have hca := World.ownsRow.cells (g := ga) oa rfl
    refine ⟨g, cap, ga, acap, nv, rfl, ?_, ?_, hni.rd hw⟩
    · have := hc 2 (.slice (some ⟨ga, 0, none⟩) 1 acap) (by simp); rwa [hadd] at this
    · have := hca 1 nv (by simp); rwa [hadd] at this
theorem expr_totalN (N : Nat) (hN : evN ≤ N) (s : ByteArray) : ∃ er ns, exprM N s = some (er, ns) ∧ 0 ≤ er ∧ er ≤ 6 := by
  unfold exprM
  by_cases he : lexE s = 0
  · rw [if_pos he]
    by_cases hs : s.size ≤ 6000
    · obtain ⟨a, b, h1, h2, h3, -⟩ := exprT_ex (lexT_good hs he) N (Nat.le_trans (lexT_len s).1 hN)
      exact ⟨a, b, h1, h2, h3⟩
    · exact absurd he (lexE_big hs)
  · rw [if_neg he]
    exact ⟨_, _, rfl, (lexE_six s).1, (lexE_six s).2⟩
section
variable (w : World)
set_option maxHeartbeats 4000000 in
set_option maxRecDepth 20000 in
theorem law_brackets (s : ByteArray) (n : Nat) (hn : n < 256) (hs : s.size ≤ maxLen) (hv : ErrVar w) : Calls Tryd.prog 4 #[.string s, .int .u8 n] w (Made (.bool true) w) := by
  have V := Lib.hid hv
  have HL := Lib.hid hs
  unfold maxLen at hs
  clear hv
  by_cases h1 : 200 < s.size
  · go_enter Tryd.func4, Tryd.ntmps4
    go_wp2_with fail
    refine (pawake w V.out).mono ?_
    rintro e w1 ⟨rfl, hb1⟩
    have B1 := Lib.hid hb1
    clear hb1
    go_wp2_with fail
    go_ret
    exact ⟨rfl, B1.out⟩
  obtain ⟨er, l, hx, e0, e6, hnil⟩ := expr_total s
  have k0 : n % 6 < 6 := by omega
  have hk : (n : Int) % 6 = ((n % 6 : Nat) : Int) := by omega
  generalize hK : n % 6 = k at *
  have SA := Lib.hid (rep_size ⟨#[40]⟩ (by decide))
  have SB := Lib.hid (rep_size ⟨#[10, 41]⟩ (by decide))
  obtain ⟨fr, m, hM, f0, f6, hfm⟩ : ∃ fr m, exprM (evN + 10 * k) (repG ⟨#[40]⟩ k ++ s ++ repG ⟨#[10, 41]⟩ k) = some (fr, m) ∧ 0 ≤ fr ∧ fr ≤ 6 ∧ (er = 0 → (fr = 0 ∧ m = l) ∨ (fr = 6 ∧ m = [])) := by
    by_cases he : er = 0
    · subst he
      rcases br_text (by omega) hx k (by omega) with h | h
      · exact ⟨_, _, h, by decide, by decide, fun _ => .inl ⟨rfl, rfl⟩⟩
      · exact ⟨_, _, h, by decide, by decide, fun _ => .inr ⟨rfl, rfl⟩⟩
    · obtain ⟨a, b, h1, h2, h3⟩ := expr_totalN (evN + 10 * k) (Nat.le_add_right _ _) (repG ⟨#[40]⟩ k ++ s ++ repG ⟨#[10, 41]⟩ k)
      exact ⟨a, b, h1, h2, h3, fun h => absurd h he⟩
  obtain ⟨gr, bs, hP, g0, g6, hgb⟩ : ∃ gr bs, parseM evN 9001 (preB ++ s ++ ⟨#[10, 125]⟩) = some (gr, bs) ∧ 0 ≤ gr ∧ gr ≤ 6 ∧ (er = 0 → gr = 0 ∧ bs = [.mk 2 ⟨#[]⟩ [⟨⟨#[97]⟩, l⟩] []]) := by
    by_cases he : er = 0
    · subst he
      exact ⟨_, _, at_text (by omega) hx, by decide, by decide, fun _ => ⟨rfl, rfl⟩⟩
    · obtain ⟨a, b, h1, h2, h3, -⟩ := parse_total (preB ++ s ++ ⟨#[10, 125]⟩)
      exact ⟨a, b, h1, h2, h3, fun h => absurd h he⟩
  have HX := Lib.hid hx
  have HM := Lib.hid hM
  have HP := Lib.hid (show parseM evN 9001 (⟨#[108, 111, 99, 97, 108, 115, 32, 123, 32, 97, 32, 61, 32]⟩ ++ s ++ ⟨#[10, 125]⟩) = some (gr, bs) from hP)
  have HF := Lib.hid hfm
  have HG := Lib.hid hgb
  have NIL := Lib.hid hnil
  have BND := Lib.hid (fun (h : er = 0) => text_nodes (s := s) (by omega) (h ▸ hx))
  have z1 : (⟨#[40]⟩ : ByteArray).size = 1 := rfl
  have z2 : (⟨#[10, 41]⟩ : ByteArray).size = 2 := rfl
  have z3 : (⟨#[108, 111, 99, 97, 108, 115, 32, 123, 32, 97, 32, 61, 32]⟩ : ByteArray).size = 13 := rfl
  have z4 : (⟨#[10, 125]⟩ : ByteArray).size = 2 := rfl
  have KK := Lib.hid hK
  clear hx hM hP hfm hgb hnil hK
  go_enter Tryd.func4, Tryd.ntmps4
  go_wp2_with fail
  refine (pexpr s _ evN er l HL.out V.out HX.out).mono ?_
  rintro e w1 ⟨lv, rfl, hb1, hn1⟩
  have B1 := Lib.hid hb1
  have N1 := Lib.hid hn1
  obtain ⟨lao, lcap, rfl, -⟩ := hn1.at
  clear hb1 hn1
  go_wp2_with fail
  go_loop [7, 8, 9] (fun vs vt vi => ∃ j : Nat, vi = .int .i64 j ∧ j ≤ k ∧ vs = .string (repG ⟨#[40]⟩ j) ∧ vt = .string (repG ⟨#[10, 41]⟩ j)) (fun _ _ vi => k - (intOf vi).toNat)
  case atStart => exact ⟨0, rfl, Nat.zero_le _, rfl, rfl⟩
  case round =>
    obtain ⟨j, rfl, hj, rfl, rfl⟩ := hrel
    have s1 := SA.out j
    have s2 := SB.out j
    by_cases hjk : j < k
    · have R1 := Lib.hid (show repG ⟨#[40]⟩ (j + 1) = repG ⟨#[40]⟩ j ++ ⟨#[40]⟩ from rfl)
      have R2 := Lib.hid (show repG ⟨#[10, 41]⟩ (j + 1) = repG ⟨#[10, 41]⟩ j ++ ⟨#[10, 41]⟩ from rfl)
      go_wp2_with fail
      go_round
      case rel => exact ⟨j + 1, by go_num, hjk, by rw [R1.out], by rw [R2.out]⟩
      case measure => simp [intOf]; omega
    · obtain rfl : j = k := by omega
      have S2 := Lib.hid (show (repG ⟨#[40]⟩ j ++ s ++ repG ⟨#[10, 41]⟩ j).size ≤ maxLen by rw [ByteArray.size_append, ByteArray.size_append]; unfold maxLen; omega)
      have S3 := Lib.hid (show (⟨#[108, 111, 99, 97, 108, 115, 32, 123, 32, 97, 32, 61, 32]⟩ ++ s ++ ⟨#[10, 125]⟩ : ByteArray).size ≤ maxLen by rw [ByteArray.size_append, ByteArray.size_append]; unfold maxLen; omega)
      go_wp2_with fail
      refine (pexpr _ _ (evN + 10 * j) fr m S2.out (V.out.below B1.out V.out.lt) HM.out).mono ?_
      rintro e w2 ⟨mv, rfl, hb2, hn2⟩
      have B2 := Lib.hid (B1.out.trans (hb2.mono B1.out.size))
      have N2 := Lib.hid hn2
      have N1b := Lib.hid (N1.out.below hb2)
      obtain ⟨mao, mcap, rfl, -⟩ := hn2.at
      clear hb2 hn2
      go_wp2_with fail
      refine (pparse _ _ evN 9001 gr bs S3.out (V.out.below B2.out V.out.lt) HP.out).mono ?_
      rintro e w3 ⟨xv, rfl, hb3, hp3⟩
      have B3 := Lib.hid (B2.out.trans (hb3.mono B2.out.size))
      have N2c := Lib.hid (N2.out.below hb3)
      have N1c := Lib.hid (N1b.out.below hb3)
      have P3 := Lib.hid hp3
      clear hb3 hp3
      by_cases he : er = 0
      · obtain ⟨rfl, rfl⟩ := HG.out he
        obtain ⟨bl, bq⟩ := BND.out he
        have BQ := Lib.hid bq
        have FF := Lib.hid (HF.out he)
        obtain ⟨g, cap, ga, acap, nv, rfl, c2, c1, hnv⟩ := parsed_attr P3.out
        obtain ⟨vao, vcap, rfl, -⟩ := hnv.at
        have NV := Lib.hid hnv
        subst he
        clear hnv bq
        go_wp2_with fail
        refine (num_pany _ 0 (by omega) (by omega)).mono ?_
        rintro e w4 ⟨rfl, rfl⟩
        go_wp2_with fail
        refine (num_pany _ 0 (by omega) (by omega)).mono ?_
        rintro e w4 ⟨rfl, rfl⟩
        go_wp2_with fail
        refine (sameNodes_any _ _ _ l NV.out N1c.out bl BQ.out).mono ?_
        rintro e w5 ⟨rfl, hb5⟩
        have B5 := Lib.hid (B3.out.trans (hb5.mono B3.out.size))
        have N1d := Lib.hid (N1c.out.below hb5)
        have N2d := Lib.hid (N2c.out.below hb5)
        clear hb5
        rcases FF.out with ⟨rfl, hm⟩ | ⟨rfl, hm⟩
        · subst hm
          go_wp2_with fail
          refine (num_pany _ 0 (by omega) (by omega)).mono ?_
          rintro e w6 ⟨rfl, rfl⟩
          go_wp2_with fail
          refine (sameNodes_any _ _ _ m N1d.out N2d.out bl BQ.out).mono ?_
          rintro e w7 ⟨rfl, hb7⟩
          have B7 := Lib.hid (B5.out.trans (hb7.mono B5.out.size))
          clear hb7
          go_wp2_with fail
          refine (pawake _ (V.out.below B7.out V.out.lt)).mono ?_
          rintro e w8 ⟨rfl, hb8⟩
          have B8 := Lib.hid (B7.out.trans (hb8.mono B7.out.size))
          clear hb8
          go_wp2_with fail
          go_ret
          exact ⟨rfl, B8.out⟩
        · go_wp2_with fail
          refine (num_pany _ 6 (by omega) (by omega)).mono ?_
          rintro e w6 ⟨rfl, rfl⟩
          go_wp2_with fail
          refine (num_pany _ 6 (by omega) (by omega)).mono ?_
          rintro e w6 ⟨rfl, rfl⟩
          go_wp2_with fail
          refine (pawake _ (V.out.below B5.out V.out.lt)).mono ?_
          rintro e w8 ⟨rfl, hb8⟩
          have B8 := Lib.hid (B5.out.trans (hb8.mono B5.out.size))
          clear hb8
          go_wp2_with fail
          go_ret
          exact ⟨rfl, B8.out⟩
      · have hl := NIL.out he
        subst hl
        have gE : (er != 0) = true := by simpa using he
        clear he
        obtain ⟨xao, xn, xcap, rfl⟩ : ∃ ao n cap, xv = .slice ao n cap := by
          rcases P3.out with ⟨-, rfl⟩ | ⟨C, b, ⟨xs, o, -⟩, -⟩
          · exact ⟨none, 0, 0, rfl⟩
          · exact own_slice o
        go_wp2_with fail
        refine (num_pany _ er e0 (by omega)).mono ?_
        rintro e w4 ⟨rfl, rfl⟩
        go_wp2_with fail
        refine (pawake _ (V.out.below B3.out V.out.lt)).mono ?_
        rintro e w8 ⟨rfl, hb8⟩
        have B8 := Lib.hid (B3.out.trans (hb8.mono B3.out.size))
        clear hb8
        go_wp2_with fail
        go_ret
        exact ⟨rfl, B8.out⟩
end
end Go.Proofs.YtkbbhgipajhbnaaDoor
