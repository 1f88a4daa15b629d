/- SameParts and SameTokens of two lists that are one. -/
import Derived.Test.YtkcilajbhoihcaaDoorLexI
namespace Go.Proofs.YtkcilajbhoihcaaDoor
open Go.RowKit
set_option linter.unusedVariables false
set_option linter.unusedSimpArgs false

theorem partCells_get : ∀ {ps : List PartL} {i : Nat} (h : i < ps.length), (partCells ps)[i * 2]? = some (.bool ps[i].1) ∧ (partCells ps)[i * 2 + 1]? = some (.string ps[i].2) := by
  intro ps
  induction ps with
  | nil => intro i h; simp at h
  | cons p ps ih =>
    intro i h
    have e : partCells (p :: ps) = .bool p.1 :: .string p.2 :: partCells ps := rfl
    rw [e]
    cases i with
    | zero => simp
    | succ i =>
      have h' : i < ps.length := by simpa using h
      have := ih h'
      rw [show (i + 1) * 2 = i * 2 + 2 by omega]
      simpa using this
theorem PartsRd.cell {w : World} {v : Value} {ps : List PartL} (h : PartsRd w v ps) (hn : 0 < ps.length) : ∃ g o cap, v = .slice (some ⟨g, o, none⟩) ps.length cap ∧
    ∀ i (hi : i < ps.length), w.cell? ⟨g, o + i * 2, none⟩ = some (.bool ps[i].1) ∧ w.cell? ⟨g, o + i * 2 + 1, none⟩ = some (.string ps[i].2) := by
  obtain ⟨ao, cap, rfl, hc⟩ := h
  obtain ⟨g, o, rfl, _⟩ := hc 0 _ (by have := (partCells_get hn).1; simpa using this)
  refine ⟨g, o, cap, rfl, fun i hi => ?_⟩
  obtain ⟨g1, o1, e1, c1⟩ := hc _ _ (partCells_get hi).1
  obtain ⟨g2, o2, e2, c2⟩ := hc _ _ (partCells_get hi).2
  simp at e1 e2
  obtain ⟨rfl, rfl⟩ := e1
  obtain ⟨rfl, rfl⟩ := e2
  exact ⟨c1, by rw [Nat.add_assoc]; exact c2⟩
theorem PartsRd.len {w : World} {v : Value} {ps : List PartL} (h : PartsRd w v ps) : ∃ ao cap, v = .slice ao ps.length cap := by
  obtain ⟨ao, cap, rfl, hc⟩ := h; exact ⟨_, _, rfl⟩
section
variable (w : World)
set_option maxRecDepth 20000 in
theorem sameParts_any (va vb : Value) (ps : List PartL) (ha : PartsRd w va ps) (hb : PartsRd w vb ps) (hl : ps.length ≤ 9000) :
    Calls Tryd.prog 11 #[va, vb] w (Quiet (.bool true) w) := by
  by_cases h0 : 0 < ps.length
  · obtain ⟨g, o, cap, rfl, hc⟩ := ha.cell h0
    obtain ⟨g2, o2, cap2, rfl, hc2⟩ := hb.cell h0
    have HC := Lib.hid hc
    have HC2 := Lib.hid hc2
    clear ha hb hc hc2
    go_enter Tryd.func11, Tryd.ntmps11
    go_wp2_with fail
    go_loopg [5] ps.length (fun m v wr => ∃ j n : Nat, v = .int .i64 j ∧ ps.length - j ≤ m ∧ j ≤ ps.length ∧ wr = w.drewN n)
    case atStart => exact ⟨0, 0, rfl, Nat.le_refl _, Nat.zero_le _, rfl⟩
    case round =>
      obtain ⟨j, n, rfl, hm, hj, rfl⟩ := hrel
      have HM := Lib.hid hm
      clear hm
      by_cases h : j < ps.length
      · obtain ⟨c1, c2⟩ := HC.out j h
        obtain ⟨d1, d2⟩ := HC2.out j h
        generalize ps[j].1 = pb at *
        generalize ps[j].2 = pt at *
        go_wp2_with fail
        go_quiet (fail)
        go_wp2
        go_roundg (ps.length - (j + 1))
        case rel => exact ⟨j + 1, _, rfl, Nat.le_refl _, h, rfl⟩
        case measure => have := HM.out; omega
      · go_wp2_with fail
        go_ret
        exact ⟨rfl, _, rfl⟩
  · obtain ⟨ao, cap, rfl⟩ := ha.len
    obtain ⟨ao2, cap2, rfl⟩ := hb.len
    have h0 : ps.length = 0 := by omega
    rw [h0]
    clear ha hb
    go_enter Tryd.func11, Tryd.ntmps11
    go_wp2_with fail
    go_loopg [5] 0 (fun m v wr => v = .int .i64 0 ∧ wr = w)
    case atStart => exact ⟨rfl, rfl⟩
    case round =>
      obtain ⟨rfl, rfl⟩ := hrel
      go_wp2_with fail
      go_ret
      exact ⟨rfl, 0, rfl⟩
end
theorem PartsRd.drewN {w : World} {v : Value} {ps : List PartL} (h : PartsRd w v ps) (n : Nat) : PartsRd (w.drewN n) v ps := h
theorem ToksRd.drewN {w : World} {v : Value} {ts : List TokL} (h : ToksRd w v ts) (n : Nat) : ToksRd (w.drewN n) v ts := by
  obtain ⟨xs, h1, h2⟩ := h
  refine ⟨xs, h1, ?_⟩
  clear h1
  induction ts generalizing xs with
  | nil => exact h2
  | cons t ts ih => obtain ⟨pv, rest, rfl, hp, hr⟩ := h2; exact ⟨pv, rest, rfl, hp, ih _ hr⟩
theorem ToksRd.cell {w : World} {v : Value} {ts : List TokL} (h : ToksRd w v ts) (hn : 0 < ts.length) : ∃ g o cap, v = .slice (some ⟨g, o, none⟩) ts.length cap ∧ ∀ i (hi : i < ts.length), ∃ pv, TokIn w g (o + i * 5) ts[i] pv := by
  obtain ⟨ao, cap, rfl, hc⟩ := h.at
  obtain ⟨g, o, pv, rfl, _⟩ := hc 0 ts[0] (by simp [hn])
  refine ⟨g, o, cap, rfl, fun i hi => ?_⟩
  obtain ⟨g', o', pv', e, h'⟩ := hc i ts[i] (by simp [hi])
  simp at e
  obtain ⟨rfl, rfl⟩ := e
  exact ⟨pv', h'⟩
theorem ToksRd.len {w : World} {v : Value} {ts : List TokL} (h : ToksRd w v ts) : ∃ ao cap, v = .slice ao ts.length cap := by
  obtain ⟨ao, cap, rfl, hc⟩ := h.at; exact ⟨_, _, rfl⟩
section
variable (w : World)
set_option maxHeartbeats 4000000 in
set_option maxRecDepth 20000 in
theorem sameTokens_any (va vb : Value) (ts : List TokL) (ha : ToksRd w va ts) (hb : ToksRd w vb ts) (hl : ts.length ≤ 9000) (hq : ∀ t ∈ ts, t.parts.length ≤ 9000) :
    Calls Tryd.prog 7 #[va, vb] w (Quiet (.bool true) w) := by
  by_cases h0 : 0 < ts.length
  · obtain ⟨g, o, cap, rfl, hc⟩ := ha.cell h0
    obtain ⟨g2, o2, cap2, rfl, hc2⟩ := hb.cell h0
    have HC := Lib.hid hc
    have HC2 := Lib.hid hc2
    have HQ := Lib.hid (show ∀ i (hi : i < ts.length), ts[i].parts.length ≤ 9000 from fun i hi => hq _ (List.getElem_mem hi))
    clear ha hb hc hc2 hq
    go_enter Tryd.func7, Tryd.ntmps7
    go_wp2_with fail
    go_loopg [5] ts.length (fun m v wr => ∃ j n : Nat, v = .int .i64 j ∧ ts.length - j ≤ m ∧ j ≤ ts.length ∧ wr = w.drewN n)
    case atStart => exact ⟨0, 0, rfl, Nat.le_refl _, Nat.zero_le _, rfl⟩
    case round =>
      obtain ⟨j, n, rfl, hm, hj, hw⟩ := hrel
      have HM := Lib.hid hm
      have HW := Lib.hid hw
      have tr : ∀ a, w.cell? a = wr.cell? a := fun a => by rw [hw]; rfl
      have trp : ∀ v ps, PartsRd w v ps → PartsRd wr v ps := fun v ps h => by rw [hw]; exact h.drewN n
      clear hm hw
      by_cases h : j < ts.length
      · obtain ⟨pa, c0, c1, c2, c3, c4, c5⟩ := HC.out j h
        obtain ⟨pb, d0, d1, d2, d3, d4, d5⟩ := HC2.out j h
        have LQ := Lib.hid (HQ.out j h)
        generalize ts[j].kind = tk at *
        generalize ts[j].text = tt at *
        generalize ts[j].num = tn at *
        generalize (ts[j].at_ : Int) = ta at *
        generalize ts[j].parts = tp at *
        rw [tr] at c0 c1 c2 c3 c4 d0 d1 d2 d3 d4
        have C5 := Lib.hid (trp _ _ c5)
        have D5 := Lib.hid (trp _ _ d5)
        have e1 : (tk != tk) = false := by simp
        have e2 : (tt.toList != tt.toList) = false := by simp
        have e3 : (tn != tn) = false := by simp
        have e4 : (ta != ta) = false := by simp
        clear c5 d5 tr trp
        go_wp2_with fail
        go_quiet ((go_at_call 11; exact quietAt (sameParts_any _ _ _ tp (C5.out.drewN _) (D5.out.drewN _) LQ.out)))
        go_wp2
        go_roundg (ts.length - (j + 1))
        case rel => exact ⟨j + 1, _, rfl, Nat.le_refl _, h, by rw [HW.out, World.drewN_drewN]⟩
        case measure => have := HM.out; omega
      · clear tr trp
        go_wp2_with fail
        go_ret
        exact ⟨rfl, _, HW.out⟩
  · obtain ⟨ao, cap, rfl⟩ := ha.len
    obtain ⟨ao2, cap2, rfl⟩ := hb.len
    have h0 : ts.length = 0 := by omega
    rw [h0]
    clear ha hb
    go_enter Tryd.func7, Tryd.ntmps7
    go_wp2_with fail
    go_loopg [5] 0 (fun m v wr => v = .int .i64 0 ∧ wr = w)
    case atStart => exact ⟨rfl, rfl⟩
    case round =>
      obtain ⟨rfl, rfl⟩ := hrel
      go_wp2_with fail
      go_ret
      exact ⟨rfl, 0, rfl⟩
end
/-! ### how many there are -/
theorem partsAt_few (s : ByteArray) : ∀ n k ps pl r k', partsAt s n k ps pl = some (r, k') → r.length ≤ ps.length + pl.length + (k' - k) := by
  intro n
  induction n with
  | zero => intro k ps pl r k' h; simp [partsAt] at h
  | succ n ih =>
    intro k ps pl r k' h
    have hw : ∀ (ps : List PartL) (pl : List UInt8), (withPl ps pl).length ≤ ps.length + pl.length := by
      intro ps pl
      unfold withPl; split
      · omega
      · rename_i hne
        have : 0 < pl.length := List.length_pos_iff.2 hne
        simp; omega
    rw [partsAt] at h
    split at h
    · simp at h
      have := hw ps pl
      rw [← h.1]; omega
    · split at h
      · split at h
        · rename_i hr
          have h1 := refTo_ok hr
          have h2 := ih _ _ _ _ _ h
          have h3 := (partsAt_gt s _ _ _ _ _ _ h).1
          have := hw ps pl
          simp at h2
          omega
        · simp at h
      · split at h
        · rename_i hr
          have h1 := charTo_ok hr
          have h2 := ih _ _ _ _ _ h
          have h3 := (partsAt_gt s _ _ _ _ _ _ h).1
          simp at h2
          omega
        · simp at h
theorem tokAt_few {s : ByteArray} {j k' : Nat} {t : TokL} (h : tokAt s j = some (t, k')) : t.parts.length ≤ s.size := by
  unfold tokAt at h
  split at h
  · split at h
    · simp at h; rw [← h.1]; simp
    · simp at h
  · split at h
    · split at h
      · simp at h; rw [← h.1]; simp
      · simp at h
    · split at h
      · split at h
        · rename_i ps k1 hp
          simp at h
          have h1 := partsAt_few s _ _ _ _ _ _ hp
          have h2 := partsAt_gt s _ _ _ _ _ _ hp
          rw [← h.1]; simp at h1 ⊢; omega
        · simp at h
      · split at h
        · simp at h; rw [← h.1]; simp
        · simp at h
theorem lexAt_few (s : ByteArray) : ∀ n j ts r, lexAt s n j ts = some r → (∀ t ∈ ts, t.parts.length ≤ s.size) → ts.length ≤ j → j ≤ s.size → r.length ≤ s.size ∧ ∀ t ∈ r, t.parts.length ≤ s.size := by
  intro n
  induction n with
  | zero => intro j ts r h hp hl hj; simp [lexAt] at h; subst h; exact ⟨by omega, hp⟩
  | succ n ih =>
    intro j ts r h hp hl hj
    rw [lexAt] at h
    split at h
    · rename_i hlt
      split at h
      · rename_i t k' ht
        have h1 := tokAt_gt hlt ht
        have h2 := skipTo_ok h1.2
        refine ih _ _ _ h ?_ (by simp; omega) h2.2
        intro x hx
        simp at hx
        rcases hx with hx | rfl
        · exact hp x hx
        · exact tokAt_few ht
      · simp at h
    · simp at h; subst h; exact ⟨by omega, hp⟩
theorem lexT_few (s : ByteArray) : (lexT s).length ≤ 9000 ∧ ∀ t ∈ lexT s, t.parts.length ≤ 9000 := by
  unfold lexT
  split
  · simp
  · rename_i h6
    split
    · rename_i ts ht
      have h1 := skipTo_ok (s := s) (Nat.zero_le _)
      have h2 := lexAt_few s _ _ _ _ ht (by simp) (Nat.zero_le _) h1.2
      refine ⟨by simp; omega, fun t hx => ?_⟩
      simp at hx
      rcases hx with hx | rfl
      · have := h2.2 t hx; omega
      · simp
    · simp
end Go.Proofs.YtkcilajbhoihcaaDoor
