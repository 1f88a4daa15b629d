/- Truths that came in; two rows of warnings that say the same. -/
import Derived.Test.YtlkdicabmikhkaaGreatDoorLcD
namespace Go.Proofs.YtlkdicabmikhkaaGreatDoor
open Go.RowKit Go.Sort
set_option linter.unusedVariables false
set_option linter.unusedSimpArgs false
/-- Truths as a slice value reads. -/
def BoolsRd (w : World) (v : Value) (xs : List Bool) : Prop :=
  ∃ ao cap, v = .slice ao xs.length cap ∧ ∀ (j : Nat) (x : Bool), xs[j]? = some x → ∃ g o, ao = some ⟨g, o, none⟩ ∧ w.cell? ⟨g, o + j, none⟩ = some (.bool x)
theorem BoolsRd.below {w w' : World} {v : Value} {xs : List Bool} (h : BoolsRd w v xs) (hb : Below w.heap.size w w') : BoolsRd w' v xs := by
  obtain ⟨ao, cap, rfl, hc⟩ := h
  refine ⟨ao, cap, rfl, fun j x hj => ?_⟩
  obtain ⟨g, o, e, hw⟩ := hc j x hj
  exact ⟨g, o, e, hold hb hw⟩
theorem warnCells_at : ∀ (l : List (Int × ByteArray)) (i : Nat) (x : Int × ByteArray), l[i]? = some x → (warnCells l)[i * 2]? = some (.int .i64 x.1) ∧ (warnCells l)[i * 2 + 1]? = some (.string x.2) := by
  intro l
  induction l with
  | nil => intro i x h; simp at h
  | cons a l ih =>
    intro i x h
    show ((Value.int .i64 a.1) :: (Value.string a.2) :: warnCells l)[i * 2]? = _ ∧ ((Value.int .i64 a.1) :: (Value.string a.2) :: warnCells l)[i * 2 + 1]? = _
    cases i with
    | zero => simp at h; subst h; exact ⟨rfl, rfl⟩
    | succ i =>
      obtain ⟨h1, h2⟩ := ih i x (by simpa using h)
      refine ⟨?_, ?_⟩
      · rw [← h1, show (i + 1) * 2 = (i * 2 + 1) + 1 by omega]; rfl
      · rw [← h2, show (i + 1) * 2 + 1 = (i * 2 + 1 + 1) + 1 by omega]; rfl
section
variable (w : World)
set_option maxHeartbeats 1000000 in
set_option maxRecDepth 20000 in
theorem psameW (B1 B2 : Nat) (u v : Value) (l : List (Int × ByteArray)) (hu : w.ownsRow B1 40 2 u l.length (warnCells l)) (hv : w.ownsRow B2 40 2 v l.length (warnCells l)) (hl : l.length ≤ 1000) :
    Calls Tryz.prog 7 #[u, v] w (Made (.bool true) w) := by
  have U := Lib.hid hu
  have V := Lib.hid hv
  obtain ⟨uo, uc, rfl⟩ := own_lenR hu
  obtain ⟨vo, vc, rfl⟩ := own_lenR hv
  clear hu hv
  go_enter Tryz.func7, Tryz.ntmps7
  go_wp2_with fail
  go_loopg [5] l.length (fun m iv wr => ∃ j : Nat, iv = .int .i64 j ∧ l.length - j ≤ m ∧ j ≤ l.length ∧ Hid (Below w.heap.size w wr))
  case atStart => exact ⟨0, rfl, Nat.le_refl _, Nat.zero_le _, Lib.hid (Below.refl _ _)⟩
  case round =>
    obtain ⟨j, rfl, hm, hj, B⟩ := hrel
    have HM := Lib.hid hm
    clear hm
    by_cases hjl : j < l.length
    · obtain ⟨x, hx⟩ : ∃ x, l[j]? = some x := ⟨_, List.getElem?_eq_getElem hjl⟩
      obtain ⟨k1, k2⟩ := warnCells_at l j x hx
      obtain ⟨g1, c1, e1, h1⟩ := own_cell U.out (by omega)
      obtain ⟨g2, c2, e2, h2⟩ := own_cell V.out (by omega)
      simp only [Value.slice.injEq, true_and] at e1 e2
      obtain ⟨rfl, rfl⟩ := e1
      obtain ⟨rfl, rfl⟩ := e2
      have p0 := hold B.out (h1 _ _ k1)
      have p1 := hold B.out (h1 _ _ k2)
      have q0 := hold B.out (h2 _ _ k1)
      have q1 := hold B.out (h2 _ _ k2)
      clear h1 h2 k1 k2 hx
      go_wp2_with fail
      go_region_with fail
      all_goals
        go_wp2_with fail
        go_roundg (l.length - (j + 1))
        case rel => exact ⟨j + 1, rfl, Nat.le_refl _, hjl, Lib.hid (below_drew B.out)⟩
        case measure => have := HM.out; omega
    · go_wp2_with fail
      go_ret
      exact ⟨rfl, B.out⟩
end
end Go.Proofs.YtlkdicabmikhkaaGreatDoor
