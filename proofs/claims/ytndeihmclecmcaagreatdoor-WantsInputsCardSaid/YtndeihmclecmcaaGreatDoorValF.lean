/- Package val: Same, at any depth; the document's sameness. -/
import Derived.Test.YtndeihmclecmcaaGreatDoorValE
namespace Go.Proofs.YtndeihmclecmcaaGreatDoor
open Go.RowKit
set_option linter.unusedVariables false
set_option linter.unusedSimpArgs false

theorem sameOf_of {f : FuncId} {D : Nat} {S T : VL → VL → Bool} (h : SameOf f D S) (e : ∀ (a b : VL) (la lb : Value) (w : World), RowRd w D a.kids la → RowRd w D b.kids lb → S a b = T a b) : SameOf f D T := fun a b la lb w ha hb => by
  rw [← e a b la lb w ha hb]; exact h a b la lb w ha hb
set_option maxHeartbeats 2000000 in
set_option maxRecDepth 20000 in
theorem vsame_step (D : Nat) (S : VL → VL → Bool) (hS : 0 < D → SameOf 155 (D - 1) S) : SameOf 155 D (fun a b => headB a b && sameR S a.kids b.kids) := by
  intro a b la lb w ha hb
  have HA := Lib.hid ha
  have HB := Lib.hid hb
  have HS := Lib.hid hS
  obtain ⟨ao, cap, rfl⟩ := ha.shape
  obtain ⟨ao2, cap2, rfl⟩ := hb.shape
  clear ha hb hS
  have HH := Lib.hid (show headB a b = (a.kind == b.kind && a.num == b.num && a.text.toList == b.text.toList) from rfl)
  show Calls _ _ _ w (Made (.bool (headB a b && sameR S a.kids b.kids)) w)
  rw [HH.out]
  clear HH
  cases h1 : (a.kind == b.kind)
  · go_enter Tryz.func155, Tryz.ntmps155
    go_wp2_with fail
    go_ret
    exact ⟨rfl, below_al (below_al (Below.refl _ _) _) _⟩
  · cases h2 : (a.num == b.num)
    · go_enter Tryz.func155, Tryz.ntmps155
      go_wp2_with fail
      go_ret
      exact ⟨rfl, below_al (below_al (Below.refl _ _) _) _⟩
    · cases h3 : (a.text.toList == b.text.toList)
      · go_enter Tryz.func155, Tryz.ntmps155
        go_wp2_with fail
        go_ret
        exact ⟨rfl, below_al (below_al (Below.refl _ _) _) _⟩
      · go_enter Tryz.func155, Tryz.ntmps155
        go_wp2_with fail
        (with_reducible refine (vequal _ D S HS.out a.kids b.kids _ _ (HA.out.below ?ba) (HB.out.below ?bb)).mono ?_)
        case ba => exact below_al (below_al (Below.refl _ _) _) _
        case bb => exact below_al (below_al (Below.refl _ _) _) _
        rintro e w2 ⟨rfl, hb2⟩
        have B2 := Lib.hid (below_tr (below_al (below_al (Below.refl _ _) _) _) hb2)
        clear hb2
        go_wp2_with fail
        go_ret
        exact ⟨rfl, B2.out⟩
theorem headB_len (a b : VL) (S : VL → VL → Bool) (ha : a.kids = []) (hb : b.kids = []) : (headB a b && sameR S a.kids b.kids) = sameB 0 a b := by
  rw [same_zero, ha, hb]; rfl
theorem vsame : ∀ D, SameOf 155 D (sameB D) := by
  intro D
  induction D with
  | zero => exact sameOf_of (vsame_step 0 (fun _ _ => true) (fun h => absurd h (Nat.lt_irrefl _))) fun a b la lb w ha hb => headB_len a b _ ha.1 hb.1
  | succ D ih => exact sameOf_of (vsame_step (D + 1) (sameB D) (fun _ => ih)) fun a b la lb w ha hb => (same_succ D a b).symm
end Go.Proofs.YtndeihmclecmcaaGreatDoor
