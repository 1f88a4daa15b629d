/- SameParts and SameTokens of two lists that are one. -/
import Derived.Test.YtkbbhgipajhbnaaDoorLexI0
import Derived.Test.YtkbbhgipajhbnaaDoorLexU0
namespace Go.Proofs.YtkbbhgipajhbnaaDoor
open Go.RowKit
set_option linter.unusedVariables false
set_option linter.unusedSimpArgs false

theorem partCells_get : ∀ {ps : List PartL} {i : Nat} (h : i < ps.length), (partCells ps)[i * 2]? = some (.bool ps[i].1) ∧ (partCells ps)[i * 2 + 1]? = some (.string ps[i].2) := by
  intro ps
  induction ps with
  | nil => intro i h; simp at h
  | cons p ps ih =>
    intro i h
    have e : partCells (p :: ps) = .bool p.1 :: .string p.2 :: partCells ps := rfl
    rw [e]
    cases i with
    | zero => simp
    | succ i =>
      have h' : i < ps.length := by simpa using h
      have := ih h'
      rw [show (i + 1) * 2 = i * 2 + 2 by omega]
      simpa using this
theorem PartsRd.cell {w : World} {v : Value} {ps : List PartL} (h : PartsRd w v ps) (hn : 0 < ps.length) : ∃ g o cap, v = .slice (some ⟨g, o, none⟩) ps.length cap ∧
    ∀ i (hi : i < ps.length), w.cell? ⟨g, o + i * 2, none⟩ = some (.bool ps[i].1) ∧ w.cell? ⟨g, o + i * 2 + 1, none⟩ = some (.string ps[i].2) := by
  obtain ⟨ao, cap, rfl, hc⟩ := h
  obtain ⟨g, o, rfl, _⟩ := hc 0 _ (by have := (partCells_get hn).1; simpa using this)
  refine ⟨g, o, cap, rfl, fun i hi => ?_⟩
  obtain ⟨g1, o1, e1, c1⟩ := hc _ _ (partCells_get hi).1
  obtain ⟨g2, o2, e2, c2⟩ := hc _ _ (partCells_get hi).2
  simp at e1 e2
  obtain ⟨rfl, rfl⟩ := e1
  obtain ⟨rfl, rfl⟩ := e2
  exact ⟨c1, by rw [Nat.add_assoc]; exact c2⟩
theorem PartsRd.len {w : World} {v : Value} {ps : List PartL} (h : PartsRd w v ps) : ∃ ao cap, v = .slice ao ps.length cap := by
  obtain ⟨ao, cap, rfl, hc⟩ := h; exact ⟨_, _, rfl⟩
section
variable (w : World)
set_option maxRecDepth 20000 in
theorem sameParts_any (va vb : Value) (ps : List PartL) (ha : PartsRd w va ps) (hb : PartsRd w vb ps) (hl : ps.length ≤ 9000) :
    Calls Tryd.prog 16 #[va, vb] w (Quiet (.bool true) w) := by
  by_cases h0 : 0 < ps.length
  · obtain ⟨g, o, cap, rfl, hc⟩ := ha.cell h0
    obtain ⟨g2, o2, cap2, rfl, hc2⟩ := hb.cell h0
    have HC := Lib.hid hc
    have HC2 := Lib.hid hc2
    clear ha hb hc hc2
    go_enter Tryd.func16, Tryd.ntmps16
    go_wp2_with fail
    go_loopg [5] ps.length (fun m v wr => ∃ j n : Nat, v = .int .i64 j ∧ ps.length - j ≤ m ∧ j ≤ ps.length ∧ wr = w.drewN n)
    case atStart => exact ⟨0, 0, rfl, Nat.le_refl _, Nat.zero_le _, rfl⟩
    case round =>
      obtain ⟨j, n, rfl, hm, hj, rfl⟩ := hrel
      have HM := Lib.hid hm
      clear hm
      by_cases h : j < ps.length
      · obtain ⟨c1, c2⟩ := HC.out j h
        obtain ⟨d1, d2⟩ := HC2.out j h
        generalize ps[j].1 = pb at *
        generalize ps[j].2 = pt at *
        go_wp2_with fail
        go_quiet (fail)
        go_wp2
        go_roundg (ps.length - (j + 1))
        case rel => exact ⟨j + 1, _, rfl, Nat.le_refl _, h, rfl⟩
        case measure => have := HM.out; omega
      · go_wp2_with fail
        go_ret
        exact ⟨rfl, _, rfl⟩
  · obtain ⟨ao, cap, rfl⟩ := ha.len
    obtain ⟨ao2, cap2, rfl⟩ := hb.len
    have h0 : ps.length = 0 := by omega
    rw [h0]
    clear ha hb
    go_enter Tryd.func16, Tryd.ntmps16
    go_wp2_with fail
    go_loopg [5] 0 (fun m v wr => v = .int .i64 0 ∧ wr = w)
    case atStart => exact ⟨rfl, rfl⟩
    case round =>
      obtain ⟨rfl, rfl⟩ := hrel
      go_wp2_with fail
      go_ret
      exact ⟨rfl, 0, rfl⟩
end
theorem PartsRd.drewN {w : World} {v : Value} {ps : List PartL} (h : PartsRd w v ps) (n : Nat) : PartsRd (w.drewN n) v ps := h
theorem ToksRd.drewN {w : World} {v : Value} {ts : List TokL} (h : ToksRd w v ts) (n : Nat) : ToksRd (w.drewN n) v ts := by
  obtain ⟨xs, h1, h2⟩ := h
  refine ⟨xs, h1, ?_⟩
  clear h1
  induction ts generalizing xs with
  | nil => exact h2
  | cons t ts ih => obtain ⟨pv, rest, rfl, hp, hr⟩ := h2; exact ⟨pv, rest, rfl, hp, ih _ hr⟩
theorem ToksRd.cell {w : World} {v : Value} {ts : List TokL} (h : ToksRd w v ts) (hn : 0 < ts.length) : ∃ g o cap, v = .slice (some ⟨g, o, none⟩) ts.length cap ∧ ∀ i (hi : i < ts.length), ∃ pv, TokIn w g (o + i * 5) ts[i] pv := by
  obtain ⟨ao, cap, rfl, hc⟩ := h.at
  obtain ⟨g, o, pv, rfl, _⟩ := hc 0 ts[0] (by simp [hn])
  refine ⟨g, o, cap, rfl, fun i hi => ?_⟩
  obtain ⟨g', o', pv', e, h'⟩ := hc i ts[i] (by simp [hi])
  simp at e
  obtain ⟨rfl, rfl⟩ := e
  exact ⟨pv', h'⟩
theorem ToksRd.len {w : World} {v : Value} {ts : List TokL} (h : ToksRd w v ts) : ∃ ao cap, v = .slice ao ts.length cap := by
  obtain ⟨ao, cap, rfl, hc⟩ := h.at; exact ⟨_, _, rfl⟩
end Go.Proofs.YtkbbhgipajhbnaaDoor
