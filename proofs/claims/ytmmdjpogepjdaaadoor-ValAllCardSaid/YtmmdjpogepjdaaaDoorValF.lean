/- Package val: Same, at any depth; the document's sameness. -/
import Derived.Test.YtmmdjpogepjdaaaDoorValE
namespace Go.Proofs.YtmmdjpogepjdaaaDoor
open Go.RowKit
set_option linter.unusedVariables false
set_option linter.unusedSimpArgs false

theorem sameOf_of {f : FuncId} {D : Nat} {S T : VL → VL → Bool} (h : SameOf f D S) (e : ∀ (a b : VL) (la lb : Value) (w : World), RowRd w D a.kids la → RowRd w D b.kids lb → S a b = T a b) : SameOf f D T := fun a b la lb w ha hb => by
  rw [← e a b la lb w ha hb]; exact h a b la lb w ha hb
set_option maxHeartbeats 2000000 in
set_option maxRecDepth 20000 in
theorem vsame_step (D : Nat) (S : VL → VL → Bool) (hS : 0 < D → SameOf 13 (D - 1) S) : SameOf 13 D (fun a b => headB a b && sameR S a.kids b.kids) := by
  intro a b la lb w ha hb
  have HA := Lib.hid ha
  have HB := Lib.hid hb
  have HS := Lib.hid hS
  obtain ⟨ao, cap, rfl⟩ := ha.shape
  obtain ⟨ao2, cap2, rfl⟩ := hb.shape
  clear ha hb hS
  have HH := Lib.hid (show headB a b = (a.kind == b.kind && a.num == b.num && a.text.toList == b.text.toList) from rfl)
  show Calls _ _ _ w (Made (.bool (headB a b && sameR S a.kids b.kids)) w)
  rw [HH.out]
  clear HH
  cases h1 : (a.kind == b.kind)
  · go_enter Tryd.func13, Tryd.ntmps13
    go_wp2_with fail
    go_ret
    exact ⟨rfl, below_al (below_al (Below.refl _ _) _) _⟩
  · cases h2 : (a.num == b.num)
    · go_enter Tryd.func13, Tryd.ntmps13
      go_wp2_with fail
      go_ret
      exact ⟨rfl, below_al (below_al (Below.refl _ _) _) _⟩
    · cases h3 : (a.text.toList == b.text.toList)
      · go_enter Tryd.func13, Tryd.ntmps13
        go_wp2_with fail
        go_ret
        exact ⟨rfl, below_al (below_al (Below.refl _ _) _) _⟩
      · go_enter Tryd.func13, Tryd.ntmps13
        go_wp2_with fail
        (with_reducible refine (vequal _ D S HS.out a.kids b.kids _ _ (HA.out.below ?ba) (HB.out.below ?bb)).mono ?_)
        case ba => exact below_al (below_al (Below.refl _ _) _) _
        case bb => exact below_al (below_al (Below.refl _ _) _) _
        rintro e w2 ⟨rfl, hb2⟩
        have B2 := Lib.hid (below_tr (below_al (below_al (Below.refl _ _) _) _) hb2)
        clear hb2
        go_wp2_with fail
        go_ret
        exact ⟨rfl, B2.out⟩
theorem headB_len (a b : VL) (S : VL → VL → Bool) (ha : a.kids = []) (hb : b.kids = []) : (headB a b && sameR S a.kids b.kids) = sameB 0 a b := by
  rw [same_zero, ha, hb]; rfl
theorem vsame : ∀ D, SameOf 13 D (sameB D) := by
  intro D
  induction D with
  | zero => exact sameOf_of (vsame_step 0 (fun _ _ => true) (fun h => absurd h (Nat.lt_irrefl _))) fun a b la lb w ha hb => headB_len a b _ ha.1 hb.1
  | succ D ih => exact sameOf_of (vsame_step (D + 1) (sameB D) (fun _ => ih)) fun a b la lb w ha hb => (same_succ D a b).symm
set_option maxHeartbeats 4000000 in
set_option maxRecDepth 20000 in
theorem rsame_step (D : Nat) (S : VL → VL → Bool) (hS : 0 < D → SameOf 14 (D - 1) S) : SameOf 14 D (fun a b => headB a b && sameR S a.kids b.kids) := by
  intro a b la lb w ha hb
  have HA := Lib.hid ha
  have HB := Lib.hid hb
  have HS := Lib.hid hS
  have hl := ha.len
  unfold maxLen at hl
  obtain ⟨ao, cap, rfl⟩ := ha.shape
  obtain ⟨ao2, cap2, rfl⟩ := hb.shape
  clear ha hb hS
  have HH := Lib.hid (show headB a b = (a.kind == b.kind && a.num == b.num && a.text.toList == b.text.toList) from rfl)
  show Calls _ _ _ w (Made (.bool (headB a b && sameR S a.kids b.kids)) w)
  rw [HH.out]
  clear HH
  by_cases h1 : a.kind = b.kind
  · have g1 : (a.kind != b.kind) = false := by simpa using h1
    by_cases h2 : a.num = b.num
    · have g2 : (a.num != b.num) = false := by simpa using h2
      cases h3 : (a.text.toList == b.text.toList)
      · have R := Lib.hid (show ((a.kind == b.kind) && (a.num == b.num) && false && sameR S a.kids b.kids) = false by simp)
        clear h1 h2
        go_enter Tryd.func14, Tryd.ntmps14
        go_wp2_with fail
        go_ret
        exact ⟨by rw [R.out]; rfl, below_al (below_al (Below.refl _ _) _) _⟩
      · have R := Lib.hid (show ((a.kind == b.kind) && (a.num == b.num) && true && sameR S a.kids b.kids) = sameR S a.kids b.kids by simp [h1, h2])
        clear h1 h2
        by_cases hlen : a.kids.length = b.kids.length
        · have LEN := Lib.hid hlen
          rw [← hlen] at HB ⊢
          have glx : ((a.kids.length : Int) != (a.kids.length : Int)) = false := by simp
          clear hlen
          go_enter Tryd.func14, Tryd.ntmps14
          go_wp2_with fail
          have n0 := VBlk.new w a (.slice ao a.kids.length cap)
          have V1 := Lib.hid (n0.below (below_al (Below.refl _ _) (.cells #[.int .i64 b.kind, .int .i64 b.num, .string b.text, .slice ao2 a.kids.length cap2] 24)))
          have V2 := Lib.hid (VBlk.new (w.alloc (.cells #[.int .i64 a.kind, .int .i64 a.num, .string a.text, .slice ao a.kids.length cap] 24)) b (.slice ao2 a.kids.length cap2))
          have B0 := Lib.hid (below_al (below_al (Below.refl w.heap.size w) (.cells #[.int .i64 a.kind, .int .i64 a.num, .string a.text, .slice ao a.kids.length cap] 24)) (.cells #[.int .i64 b.kind, .int .i64 b.num, .string b.text, .slice ao2 a.kids.length cap2] 24))
          have B00 := Lib.hid (show Kept w _ from B0.out)
          have es : (w.alloc (.cells #[.int .i64 a.kind, .int .i64 a.num, .string a.text, .slice ao a.kids.length cap] 24)).heap.size = w.heap.size + 1 := by simp
          rw [es] at V2
          clear n0 es
          generalize (w.alloc (.cells #[.int .i64 a.kind, .int .i64 a.num, .string a.text, .slice ao a.kids.length cap] 24)).alloc (.cells #[.int .i64 b.kind, .int .i64 b.num, .string b.text, .slice ao2 a.kids.length cap2] 24) = wa at *
          have HA2 := Lib.hid (HA.out.below B0.out)
          have HB2 := Lib.hid (HB.out.below B0.out)
          clear HA HB
          generalize w.heap.size = G at *
          generalize G + 1 = G1 at *
          go_loopg [5] a.kids.length (fun k iv wr => RelI wa a.kids.length k iv wr (upR S a.kids b.kids))
          case atStart => exact ⟨0, rfl, Nat.le_refl _, Nat.zero_le _, Below.refl _ _, fun j a b hj => absurd hj (Nat.not_lt_zero _)⟩
          case round =>
            obtain ⟨i, rfl, hm, hi, hb, hu⟩ := hrel
            have HM := Lib.hid hm
            have BR := Lib.hid hb
            have HU := Lib.hid hu
            clear hm hb hu
            obtain ⟨-, -, -, v3⟩ := (V1.out.below BR.out).cells
            obtain ⟨-, -, -, u3⟩ := (V2.out.below BR.out).cells
            by_cases hil : i < a.kids.length
            · obtain ⟨x, ea⟩ : ∃ u, a.kids[i]? = some u := ⟨_, List.getElem?_eq_getElem hil⟩
              obtain ⟨y, eb⟩ : ∃ u, b.kids[i]? = some u := ⟨_, List.getElem?_eq_getElem (by have := LEN.out; omega)⟩
              have EA := Lib.hid ea
              have EB := Lib.hid eb
              obtain ⟨ao3, cap3, e3, hat⟩ := (HA2.out.below BR.out).at
              simp only [Value.slice.injEq, true_and] at e3
              obtain ⟨rfl, rfl⟩ := e3
              obtain ⟨g, o, lu, rfl, hD, c0, c1, c2, c3, hr⟩ := hat i x ea
              obtain ⟨ao4, cap4, e4, hat2⟩ := (HB2.out.below BR.out).at
              rw [← LEN.out] at e4
              simp only [Value.slice.injEq, true_and] at e4
              obtain ⟨rfl, rfl⟩ := e4
              obtain ⟨g2, o2, lu2, rfl, -, d0, d1, d2, d3, hr2⟩ := hat2 i y eb
              obtain ⟨lao, lcap, rfl⟩ := hr.shape
              obtain ⟨lao2, lcap2, rfl⟩ := hr2.shape
              have SS := Lib.hid (fun W (hw : Below wr.heap.size wr W) => (HS.out hD).call x y _ _ W (hr.below hw) (hr2.below hw))
              clear hat hat2 ea eb hr hr2 hD
              go_upto_region 6 with fail
              go_cut [52] (fun s wx => s = .bool (!(S x y)) ∧ Below wr.heap.size wr wx)
              case first =>
                go_region_held3 (fun w' => w'.cell? ⟨g, o + i * 4, none⟩ = some (.int .i64 x.kind) ∧ w'.cell? ⟨g, o + i * 4 + 1, none⟩ = some (.int .i64 x.num) ∧ w'.cell? ⟨g, o + i * 4 + 2, none⟩ = some (.string x.text) ∧ w'.cell? ⟨g, o + i * 4 + 3, none⟩ = some (.slice lao x.kids.length lcap) ∧ w'.cell? ⟨g2, o2 + i * 4, none⟩ = some (.int .i64 y.kind) ∧ w'.cell? ⟨g2, o2 + i * 4 + 1, none⟩ = some (.int .i64 y.num) ∧ w'.cell? ⟨g2, o2 + i * 4 + 2, none⟩ = some (.string y.text) ∧ w'.cell? ⟨g2, o2 + i * 4 + 3, none⟩ = some (.slice lao2 y.kids.length lcap2) ∧ w'.cell? ⟨G, 3, none⟩ = some (.slice (some ⟨g, o, none⟩) a.kids.length cap) ∧ w'.cell? ⟨G1, 3, none⟩ = some (.slice (some ⟨g2, o2, none⟩) a.kids.length cap2)) (first | exact ⟨HK.out _ _ c0, HK.out _ _ c1, HK.out _ _ c2, HK.out _ _ c3, HK.out _ _ d0, HK.out _ _ d1, HK.out _ _ d2, HK.out _ _ d3, HK.out _ _ v3, HK.out _ _ u3⟩ | go_keep) (first
                  | (go_at_call 14; (with_reducible refine (SS.out _ ?_).mono ?_); exact below_drewN (Below.refl _ _) _; rintro e w' ⟨rfl, hbx⟩; have HBx := Lib.hid (show Below wr.heap.size wr w' from ⟨hbx.os, hbx.tape, hbx.output, hbx.size, hbx.block⟩); have HK := Lib.hid (fun (p : Addr) (u : Value) (hu : wr.cell? p = some u) => (HBx.out.cell (p := p) (World.block_lt_of_cell? _ _ hu)).trans hu); clear hbx))
                all_goals go_wp2
                all_goals go_meet
                all_goals (case rel => exact ⟨rfl, HBx.out⟩)
              case rest =>
                obtain ⟨rfl, hbx⟩ := hcut
                have BX := Lib.hid hbx
                clear hbx c0 c1 c2 c3 d0 d1 d2 d3 v3 u3
                cases hs : S x y
                · have FF := Lib.hid (sameR_bad EA.out EB.out hs)
                  clear hs
                  go_wp2_with fail
                  go_ret
                  exact ⟨by rw [R.out, FF.out]; rfl, below_tr (below_tr B00.out BR.out) BX.out⟩
                · have FF := Lib.hid (upR_succ HU.out EA.out EB.out hs)
                  clear hs
                  go_wp2_with fail
                  go_roundg (a.kids.length - (i + 1))
                  case rel => exact ⟨i + 1, rfl, Nat.le_refl _, hil, below_tr BR.out BX.out, FF.out⟩
                  case measure => have := HM.out; omega
            · have TT := Lib.hid (sameR_ok LEN.out (by have e : i = a.kids.length := by omega
                                                       rw [← e]; exact HU.out))
              go_wp2_with fail
              go_ret
              exact ⟨by rw [R.out, TT.out]; rfl, below_tr B00.out BR.out⟩
        · have gl : ((a.kids.length : Int) != (b.kids.length : Int)) = true := by simp; omega
          have FF := Lib.hid (sameR_len (S := S) hlen)
          clear hlen
          go_enter Tryd.func14, Tryd.ntmps14
          go_wp2_with fail
          go_ret
          exact ⟨by rw [R.out, FF.out]; rfl, below_al (below_al (Below.refl _ _) _) _⟩
    · have g2 : (a.num != b.num) = true := by simpa using h2
      have R := Lib.hid (show ((a.kind == b.kind) && (a.num == b.num) && (a.text.toList == b.text.toList) && sameR S a.kids b.kids) = false by simp [h2])
      clear h1 h2
      go_enter Tryd.func14, Tryd.ntmps14
      go_wp2_with fail
      go_ret
      exact ⟨by rw [R.out]; rfl, below_al (below_al (Below.refl _ _) _) _⟩
  · have g1 : (a.kind != b.kind) = true := by simpa using h1
    have R := Lib.hid (show ((a.kind == b.kind) && (a.num == b.num) && (a.text.toList == b.text.toList) && sameR S a.kids b.kids) = false by simp [h1])
    clear h1
    go_enter Tryd.func14, Tryd.ntmps14
    go_wp2_with fail
    go_ret
    exact ⟨by rw [R.out]; rfl, below_al (below_al (Below.refl _ _) _) _⟩
theorem rsame : ∀ D, SameOf 14 D (sameB D) := by
  intro D
  induction D with
  | zero => exact sameOf_of (rsame_step 0 (fun _ _ => true) (fun h => absurd h (Nat.lt_irrefl _))) fun a b la lb w ha hb => headB_len a b _ ha.1 hb.1
  | succ D ih => exact sameOf_of (rsame_step (D + 1) (sameB D) (fun _ => ih)) fun a b la lb w ha hb => (same_succ D a b).symm
end Go.Proofs.YtmmdjpogepjdaaaDoor
