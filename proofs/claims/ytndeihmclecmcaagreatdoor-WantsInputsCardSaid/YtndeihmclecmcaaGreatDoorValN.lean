/- Package val: May. -/
import Derived.Test.YtndeihmclecmcaaGreatDoorValM
namespace Go.Proofs.YtndeihmclecmcaaGreatDoor
open Go.RowKit
set_option linter.unusedVariables false
set_option linter.unusedSimpArgs false

theorem len_zero (n : Nat) : (n == 0) = ((n : Int) == 0) := by
  cases n with
  | zero => rfl
  | succ n => simp; omega
section
variable (w : World)
set_option maxHeartbeats 4000000 in
set_option maxRecDepth 20000 in
theorem vmay_leaf (d : Int) (v : VL) (lao : Option Addr) (lcap : Nat) (hk : ¬ v.kind = 4) :
    Calls Tryz.prog 31 #[.agg #[.int .i64 v.kind, .int .i64 v.num, .string v.text, .slice lao v.kids.length lcap], .int .i64 d] w (Made (.bool (leafB v)) w) := by
  have g4 : (v.kind == 4) = false := by simpa using hk
  by_cases h1 : v.kind = 1
  · have g1 : (v.kind == 1) = true := by simpa using h1
    rw [show leafB v = (v.text.toList.isEmpty && ((v.kids.length : Int) == 0)) by rw [← len_zero]; exact if_pos h1]
    clear h1 hk
    cases e1 : v.text.toList.isEmpty <;> cases e2 : ((v.kids.length : Int) == 0)
    all_goals
      go_enter Tryz.func31, Tryz.ntmps31
      go_wp2_with fail
      go_ret
      exact ⟨rfl, below_al (Below.refl _ _) _⟩
  · have g1 : (v.kind == 1) = false := by simpa using h1
    by_cases h2 : v.kind = 2
    · have g2 : (v.kind == 2) = true := by simpa using h2
      rw [show leafB v = (v.num == 0 && decide (v.text.size ≤ 400) && ((v.kids.length : Int) == 0)) by rw [← len_zero]; unfold leafB; rw [if_neg h1, if_pos h2]]
      clear h1 h2 hk
      cases e1 : (v.num == 0)
      · go_enter Tryz.func31, Tryz.ntmps31
        go_wp2_with fail
        go_ret
        exact ⟨rfl, below_al (Below.refl _ _) _⟩
      · by_cases h3 : v.text.size ≤ 400
        · rw [show decide (v.text.size ≤ 400) = true from decide_eq_true h3]
          cases e2 : ((v.kids.length : Int) == 0)
          all_goals
            go_enter Tryz.func31, Tryz.ntmps31
            go_wp2_with fail
            go_ret
            exact ⟨rfl, below_al (Below.refl _ _) _⟩
        · rw [show decide (v.text.size ≤ 400) = false from decide_eq_false h3]
          have h3' : 400 < v.text.size := by omega
          clear h3
          go_enter Tryz.func31, Tryz.ntmps31
          go_wp2_with fail
          go_ret
          exact ⟨rfl, below_al (Below.refl _ _) _⟩
    · have g2 : (v.kind == 2) = false := by simpa using h2
      by_cases h3 : v.kind = 3
      · have g3 : (v.kind == 3) = true := by simpa using h3
        rw [show leafB v = ((v.num == 0 || v.num == 1) && v.text.toList.isEmpty && ((v.kids.length : Int) == 0)) by rw [← len_zero]; unfold leafB; rw [if_neg h1, if_neg h2, if_pos h3]]
        clear h1 h2 h3 hk
        cases e1 : (v.num == 0) <;> cases e2 : (v.num == 1) <;> cases e3 : v.text.toList.isEmpty <;> cases e4 : ((v.kids.length : Int) == 0)
        all_goals
          go_enter Tryz.func31, Tryz.ntmps31
          go_wp2_with fail
          go_ret
          exact ⟨rfl, below_al (Below.refl _ _) _⟩
      · have g3 : (v.kind == 3) = false := by simpa using h3
        rw [show leafB v = false by unfold leafB; rw [if_neg h1, if_neg h2, if_neg h3]]
        clear h1 h2 h3 hk
        go_enter Tryz.func31, Tryz.ntmps31
        go_wp2_with fail
        go_ret
        exact ⟨rfl, below_al (Below.refl _ _) _⟩
set_option maxHeartbeats 4000000 in
set_option maxRecDepth 20000 in
theorem vmay_list (d D : Nat) (hd : d ≤ 64) (v : VL) (lv : Value) (hr : RowRd w D v.kids lv) (hk : v.kind = 4) (hS : 0 < d → 0 < D → MayOf 31 (d - 1) (D - 1) (mayB (d - 1))) :
    Calls Tryz.prog 31 #[.agg #[.int .i64 v.kind, .int .i64 v.num, .string v.text, lv], .int .i64 (d : Int)] w (Made (.bool (mayB d v)) w) := by
  have g1 : (v.kind == 1) = false := by simp [hk]
  have g2 : (v.kind == 2) = false := by simp [hk]
  have g3 : (v.kind == 3) = false := by simp [hk]
  have g4 : (v.kind == 4) = true := by simp [hk]
  have H := Lib.hid hr
  obtain ⟨lao, lcap, rfl⟩ := hr.shape
  have hl := hr.len
  unfold maxLen at hl
  have HS := Lib.hid hS
  have HKD := Lib.hid hk
  clear hr hS hk
  cases e1 : (v.num == 0)
  · have E := Lib.hid (show mayB d v = false by
      cases d with
      | zero => exact leaf_list HKD.out
      | succ d => unfold mayB; rw [if_pos HKD.out, e1]; simp)
    rw [E.out]
    go_enter Tryz.func31, Tryz.ntmps31
    go_wp2_with fail
    go_ret
    exact ⟨rfl, below_al (Below.refl _ _) _⟩
  · cases e2 : v.text.toList.isEmpty
    · have E := Lib.hid (show mayB d v = false by
        cases d with
        | zero => exact leaf_list HKD.out
        | succ d => unfold mayB; rw [if_pos HKD.out, e2]; simp)
      rw [E.out]
      go_enter Tryz.func31, Tryz.ntmps31
      go_wp2_with fail
      go_ret
      exact ⟨rfl, below_al (Below.refl _ _) _⟩
    · by_cases h3 : v.kids.length ≤ 64
      · cases d with
        | zero =>
          have E := Lib.hid (show mayB 0 v = false from leaf_list HKD.out)
          rw [E.out]
          show Calls _ _ #[_, .int .i64 0] _ _
          go_enter Tryz.func31, Tryz.ntmps31
          go_wp2_with fail
          go_ret
          exact ⟨rfl, below_al (Below.refl _ _) _⟩
        | succ d =>
          have E := Lib.hid (show mayB (d + 1) v = v.kids.all (mayB d) by
            unfold mayB; rw [if_pos HKD.out, e1, e2, decide_eq_true h3]; simp)
          rw [E.out]
          have C := Lib.hid (fun W (hw : Below w.heap.size w W) => vallMay W d D (mayB d) (fun h => HS.out (Nat.succ_pos d) h) v.kids _ (H.out.below hw))
          have hde : ((d + 1 : Nat) : Int) - 1 = (d : Int) := by omega
          have DE := Lib.hid hde
          clear hde
          have hcast : ((d + 1 : Nat) : Int) = (d : Int) + 1 := by omega
          rw [hcast]
          clear hcast
          go_enter Tryz.func31, Tryz.ntmps31
          go_wp2_with fail
          (with_reducible refine (C.out _ ?_).mono ?_)
          · exact below_al (Below.refl _ _) _
          rintro e w2 ⟨rfl, hb2⟩
          have B2 := Lib.hid (below_tr (below_al (Below.refl _ _) _) hb2)
          clear hb2
          go_wp2_with fail
          go_ret
          exact ⟨rfl, B2.out⟩
      · have E := Lib.hid (show mayB d v = false by
          cases d with
          | zero => exact leaf_list HKD.out
          | succ d => unfold mayB; rw [if_pos HKD.out, decide_eq_false h3]; simp)
        rw [E.out]
        have h3' : 64 < v.kids.length := by omega
        clear h3
        go_enter Tryz.func31, Tryz.ntmps31
        go_wp2_with fail
        go_ret
        exact ⟨rfl, below_al (Below.refl _ _) _⟩
end
theorem vmay : ∀ (d D : Nat), d ≤ 64 → MayOf 31 d D (mayB d) := by
  intro d
  induction d with
  | zero =>
    intro D hd v lv w hr
    by_cases hk : v.kind = 4
    · exact vmay_list w 0 D hd v lv hr hk (fun h => absurd h (Nat.lt_irrefl _))
    · obtain ⟨lao, lcap, rfl⟩ := hr.shape
      exact vmay_leaf w _ v lao lcap hk
  | succ d ih =>
    intro D hd v lv w hr
    by_cases hk : v.kind = 4
    · exact vmay_list w (d + 1) D hd v lv hr hk (fun _ _ => ih (D - 1) (by omega))
    · obtain ⟨lao, lcap, rfl⟩ := hr.shape
      have e : mayB (d + 1) v = leafB v := by unfold mayB; rw [if_neg hk]
      rw [e]
      exact vmay_leaf w _ v lao lcap hk
theorem vMay (w : World) (D : Nat) (v : VL) (lv : Value) (hr : RowRd w D v.kids lv) :
    Calls Tryz.prog 21 #[.agg #[.int .i64 v.kind, .int .i64 v.num, .string v.text, lv]] w (Made (.bool (mayB 64 v)) w) := by
  have C := Lib.hid (fun W (hw : Below w.heap.size w W) => (vmay 64 D (Nat.le_refl _)).call v lv W (hr.below hw))
  obtain ⟨lao, lcap, rfl⟩ := hr.shape
  clear hr
  go_enter Tryz.func21, Tryz.ntmps21
  go_wp2_with fail
  refine (C.out _ ?_).mono ?_
  · exact below_al (Below.refl _ _) _
  rintro e w2 ⟨rfl, hb2⟩
  have B2 := Lib.hid (below_tr (below_al (Below.refl _ _) _) hb2)
  clear hb2
  go_wp2_with fail
  go_ret
  exact ⟨rfl, B2.out⟩
end Go.Proofs.YtndeihmclecmcaaGreatDoor
