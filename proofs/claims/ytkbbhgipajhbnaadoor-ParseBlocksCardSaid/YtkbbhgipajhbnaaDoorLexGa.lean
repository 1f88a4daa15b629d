/- Tokens and gaps: what is left behind a token does not change it, as long as it does not go on with it. -/
import Derived.Test.YtkbbhgipajhbnaaDoorLexL
namespace Go.Proofs.YtkbbhgipajhbnaaDoor
open Go.RowKit
set_option linter.unusedVariables false
set_option linter.unusedSimpArgs false

/-- y may stand where z stood: it begins as z does, or with a blank, a 10, a '#', or not at all. -/
def Alike (z y : List UInt8) : Prop := hd y = hd z ∨ hd y = 0 ∨ hd y = 32 ∨ hd y = 10 ∨ hd y = 35
theorem hd_nonneg (l : List UInt8) : 0 ≤ hd l := by cases l <;> simp [hd]
/-- A run of bytes ends where it ended. -/
theorem run_app (p : Int → Bool) : ∀ (l y : List UInt8), (hd y ≠ 0 → p (hd y) = false) → (y = [] ∨ p (hd y) = false) → runLen p (l.take (runLen p l) ++ y) = runLen p l := by
  intro l
  induction l with
  | nil =>
    intro y _ h
    show runLen p ([] ++ y) = 0
    rw [List.nil_append]
    rcases h with rfl | h
    · rfl
    · cases y with
      | nil => rfl
      | cons c r =>
        unfold runLen
        have h : p (c.toNat : Int) = false := h
        rw [List.takeWhile_cons]
        simp [h]
  | cons c r ih =>
    intro y h0 h
    cases hc : p (c.toNat : Int)
    · have e : runLen p (c :: r) = 0 := by unfold runLen; rw [List.takeWhile_cons]; simp [hc]
      rw [e, List.take_zero, List.nil_append]
      rcases h with rfl | h
      · rfl
      · cases y with
        | nil => rfl
        | cons c' r' =>
          unfold runLen
          have h : p (c'.toNat : Int) = false := h
          rw [List.takeWhile_cons]
          simp [h]
    · have e : runLen p (c :: r) = runLen p r + 1 := by unfold runLen; rw [List.takeWhile_cons]; simp [hc]
      have e2 : ∀ z, runLen p (c :: z) = runLen p z + 1 := fun z => by unfold runLen; rw [List.takeWhile_cons]; simp [hc]
      rw [e, List.take_succ_cons, List.cons_append, e2, ih y h0 h]
theorem run_stop (p : Int → Bool) : ∀ (l : List UInt8), l.drop (runLen p l) = [] ∨ p (hd (l.drop (runLen p l))) = false := by
  intro l
  induction l with
  | nil => exact .inl rfl
  | cons c r ih =>
    cases hc : p (c.toNat : Int)
    · have e : runLen p (c :: r) = 0 := by unfold runLen; rw [List.takeWhile_cons]; simp [hc]
      rw [e]
      exact .inr hc
    · have e : runLen p (c :: r) = runLen p r + 1 := by unfold runLen; rw [List.takeWhile_cons]; simp [hc]
      rw [e, List.drop_succ_cons]
      exact ih
theorem hd_nil {l : List UInt8} (h : l = []) : hd l = 0 := by rw [h]; rfl
/-- A run that does not go on with blanks and remarks ends where it ended. -/
theorem run_alike (p : Int → Bool) (h0 : p 0 = false) (h1 : p 32 = false) (h2 : p 10 = false) (h3 : p 35 = false) (l y : List UInt8) (ha : Alike (l.drop (runLen p l)) y) : runLen p (l.take (runLen p l) ++ y) = runLen p l := by
  have hp : p (hd y) = false := by
    rcases ha with h | h | h | h | h
    · rw [h]
      rcases run_stop p l with e | e
      · rw [hd_nil e]; exact h0
      · exact e
    · rw [h]; exact h0
    · rw [h]; exact h1
    · rw [h]; exact h2
    · rw [h]; exact h3
  exact run_app p l y (fun _ => hp) (.inr hp)
theorem hd_take {l y : List UInt8} {n : Nat} (hn : 0 < n) (hl : l ≠ []) : hd (l.take n ++ y) = hd l := by
  cases l with
  | nil => exact absurd rfl hl
  | cons c r =>
    obtain ⟨m, rfl⟩ : ∃ m, n = m + 1 := ⟨n - 1, by omega⟩
    rfl
theorem hd_pos_ne {l : List UInt8} (h : hd l ≠ 0) : l ≠ [] := fun e => h (hd_nil e)
theorem runLen_pos {p : Int → Bool} {l : List UInt8} (hl : l ≠ []) (h : p (hd l) = true) : 0 < runLen p l := by
  cases l with
  | nil => exact absurd rfl hl
  | cons c r =>
    have h : p (c.toNat : Int) = true := h
    unfold runLen
    rw [List.takeWhile_cons]
    simp [h]
theorem starts_in {c : Int} (h : startsB c = true) : inNameB c = true := by simp [inNameB, h]
/-- A name stays the same name. -/
theorem name_alike {l y : List UInt8} (hs : startsB (hd l) = true) (ha : Alike (l.drop (nameN l)) y) : nameN (l.take (nameN l) ++ y) = nameN l ∧ hd (l.take (nameN l) ++ y) = hd l ∧ nameB (l.take (nameN l) ++ y) = nameB l := by
  have hne : l ≠ [] := fun e => by rw [hd_nil e] at hs; exact absurd hs (by decide)
  have e : nameN l = runLen inNameB l := by unfold nameN; rw [if_pos hs]
  have hpos : 0 < runLen inNameB l := runLen_pos hne (starts_in hs)
  rw [e] at ha ⊢
  have h1 := run_alike inNameB (by decide) (by decide) (by decide) (by decide) l y ha
  have h2 := hd_take (y := y) hpos hne
  refine ⟨?_, h2, ?_⟩
  · unfold nameN; rw [h2, if_pos hs, h1]
  · unfold nameB; rw [h2, h1]
theorem take_app {l y : List UInt8} {n : Nat} (h : n ≤ l.length) : (l.take n ++ y).take n = l.take n := by
  rw [List.take_append_of_le_length (by rw [List.length_take]; omega), List.take_take]
  congr 1; omega
/-- The first K bytes are the same. -/
structure Agree (K : Nat) (l l' : List UInt8) : Prop where
  same : l'.take K = l.take K
  le : K ≤ l.length
  le' : K ≤ l'.length
theorem Agree.drop {K : Nat} {l l' : List UInt8} (h : Agree K l l') (j : Nat) : Agree (K - j) (l.drop j) (l'.drop j) := by
  refine ⟨?_, by rw [List.length_drop]; have := h.le; omega, by rw [List.length_drop]; have := h.le'; omega⟩
  have e : ∀ z : List UInt8, (z.drop j).take (K - j) = (z.take K).drop j := fun z => by rw [List.drop_take]
  rw [e, e, h.same]
theorem Agree.hd {K : Nat} {l l' : List UInt8} (h : Agree K l l') (hK : 0 < K) : hd l' = hd l := by
  obtain ⟨m, rfl⟩ : ∃ m, K = m + 1 := ⟨K - 1, by omega⟩
  have h1 := h.same
  have h2 := h.le
  have h3 := h.le'
  cases l with
  | nil => simp at h2
  | cons c r =>
    cases l' with
    | nil => simp at h3
    | cons c' r' =>
      simp only [List.take_succ_cons, List.cons.injEq] at h1
      rw [h1.1]
      rfl
theorem Agree.take {K n : Nat} {l l' : List UInt8} (h : Agree K l l') (hn : n ≤ K) : l'.take n = l.take n := by
  have e : ∀ z : List UInt8, z.take n = (z.take K).take n := fun z => by rw [List.take_take]; congr 1; omega
  rw [e l', e l, h.same]
theorem Agree.run {p : Int → Bool} : ∀ {l l' : List UInt8} {K : Nat}, Agree K l l' → runLen p l < K → runLen p l' = runLen p l := by
  intro l
  induction l with
  | nil => intro l' K h hk; have := h.le; simp at this; omega
  | cons c r ih =>
    intro l' K h hk
    obtain ⟨m, rfl⟩ : ∃ m, K = m + 1 := ⟨K - 1, by omega⟩
    cases l' with
    | nil => have := h.le'; simp at this
    | cons c' r' =>
      have h1 := h.same
      simp only [List.take_succ_cons, List.cons.injEq] at h1
      obtain ⟨rfl, h1⟩ := h1
      have h2 := h.le
      have h3 := h.le'
      simp only [List.length_cons] at h2 h3
      cases hc : p (c'.toNat : Int)
      · have e : ∀ z, runLen p (c' :: z) = 0 := fun z => by unfold runLen; rw [List.takeWhile_cons]; simp [hc]
        rw [e, e]
      · have e : ∀ z, runLen p (c' :: z) = runLen p z + 1 := fun z => by unfold runLen; rw [List.takeWhile_cons]; simp [hc]
        rw [e] at hk ⊢
        rw [e, ih (K := m) ⟨h1, by omega, by omega⟩ (by omega)]
theorem Agree.app {l y : List UInt8} {K : Nat} (h : K ≤ l.length) : Agree K l (l.take K ++ y) :=
  ⟨take_app h, h, by rw [List.length_append, List.length_take]; omega⟩
theorem agree_nameN {K : Nat} {l l' : List UInt8} (h : Agree K l l') (hk : nameN l < K) : nameN l' = nameN l := by
  unfold nameN at hk ⊢
  rw [h.hd (by omega)]
  split
  · rename_i hs
    rw [if_pos hs] at hk
    exact h.run hk
  · rfl
theorem nameN_run {l : List UInt8} (h : nameB l = true) : nameN l = runLen inNameB l := by
  unfold nameB at h
  simp only [Bool.and_eq_true] at h
  unfold nameN
  rw [if_pos h.1]
theorem agree_nameB {K : Nat} {l l' : List UInt8} (h : Agree K l l') (hb : nameB l = true) (hk : nameN l < K) : nameB l' = true := by
  have e := nameN_run hb
  have hr := h.run (p := inNameB) (by omega)
  unfold nameB at hb ⊢
  rw [h.hd (by omega), hr]
  exact hb
/-- A reference that is there stays. -/
theorem agree_ref {K : Nat} {l l' : List UInt8} (h : Agree K l l') (hb : refBL l = true) (hk : refMidL l < K) : refBL l' = true ∧ refMidL l' = refMidL l := by
  have hb0 := hb
  unfold refBL refOkL at hb
  simp only [Bool.and_eq_true, beq_iff_eq] at hb
  obtain ⟨⟨⟨h1, h2⟩, h3⟩, h4⟩ := hb
  have em : refMidL l = nameN l + 1 + nameN (l.drop (nameN l + 1)) := by unfold refMidL; rw [if_pos h1, if_pos (by simpa using h2)]
  have e1 : nameN l' = nameN l := agree_nameN h (by omega)
  have b1 : nameB l' = true := agree_nameB h h1 (by omega)
  have d1 : hd (l'.drop (nameN l)) = 46 := by rw [(h.drop (nameN l)).hd (by omega)]; exact h2
  have e2 : nameN (l'.drop (nameN l + 1)) = nameN (l.drop (nameN l + 1)) := agree_nameN (h.drop _) (by omega)
  have b2 : nameB (l'.drop (nameN l + 1)) = true := agree_nameB (h.drop _) h3 (by omega)
  have em' : refMidL l' = refMidL l := by
    rw [em]; unfold refMidL; rw [if_pos b1, e1, if_pos (by simpa using d1), e2]
  refine ⟨?_, em'⟩
  unfold refBL refOkL
  rw [b1, e1, b2, d1, em', (h.drop _).hd (by omega), h4]
  rfl
theorem parts_alike : ∀ (n : Nat) (l : List UInt8) (c : Nat) (ps : List PartL) (pl : List UInt8) (r : List PartL) (c' : Nat), partsL n l c ps pl = some (r, c') →
    c < c' ∧ c' - c ≤ l.length ∧ ∀ (m : Nat) (l' : List UInt8), Agree (c' - c) l l' → c' - c ≤ m → partsL m l' c ps pl = some (r, c') := by
  intro n
  induction n with
  | zero => intro l c ps pl r c' h; simp [partsL] at h
  | succ n ih =>
    intro l c ps pl r c' h
    rw [partsL] at h
    have hlen : hd l ≠ 0 → 1 ≤ l.length := fun h => by
      have := hd_pos_ne h
      cases l with
      | nil => exact absurd rfl this
      | cons c r => simp
    by_cases h1 : (hd l == 34) = true
    · rw [if_pos h1] at h
      simp only [Option.some.injEq, Prod.mk.injEq] at h
      obtain ⟨rfl, rfl⟩ := h
      refine ⟨by omega, by rw [Nat.add_sub_cancel_left]; exact hlen (by rw [beq_iff_eq] at h1; omega), fun m l' ha hm => ?_⟩
      obtain ⟨k, rfl⟩ : ∃ k, m = k + 1 := ⟨m - 1, by omega⟩
      rw [partsL, ha.hd (by omega), if_pos h1]
    · rw [if_neg h1] at h
      by_cases h2 : isDol l = true
      · rw [if_pos h2] at h
        by_cases h3 : refBL (l.drop 2) = true
        · rw [if_pos h3] at h
          obtain ⟨i1, i2, i3⟩ := ih _ _ _ _ _ _ h
          rw [List.length_drop] at i2
          refine ⟨by omega, by omega, fun m l' ha hm => ?_⟩
          obtain ⟨k, rfl⟩ : ∃ k, m = k + 1 := ⟨m - 1, by omega⟩
          obtain ⟨f1, f2⟩ := agree_ref (ha.drop 2) h3 (by omega)
          have g2 : isDol l' = true := by
            unfold isDol at h2 ⊢
            rw [ha.hd (by omega), (ha.drop 1).hd (by omega)]
            exact h2
          rw [partsL, ha.hd (by omega), if_neg h1, if_pos g2, if_pos f1, f2, (ha.drop 2).take (by omega)]
          refine i3 k _ ?_ (by omega)
          have := ha.drop (2 + (refMidL (l.drop 2) + 1))
          rw [show c' - c - (2 + (refMidL (l.drop 2) + 1)) = c' - (c + (2 + (refMidL (l.drop 2) + 1))) by omega] at this
          exact this
        · rw [if_neg h3] at h
          simp at h
      · rw [if_neg h2] at h
        by_cases h3 : charOkL l = true
        · rw [if_pos h3] at h
          obtain ⟨i1, i2, i3⟩ := ih _ _ _ _ _ _ h
          rw [List.length_drop] at i2
          have hcn : charNL l = 1 ∨ charNL l = 2 := by unfold charNL; split <;> simp
          refine ⟨by omega, by omega, fun m l' ha hm => ?_⟩
          obtain ⟨k, rfl⟩ : ∃ k, m = k + 1 := ⟨m - 1, by omega⟩
          have q0 := ha.hd (by omega)
          have q1 : 1 < c' - c → hd (l'.drop 1) = hd (l.drop 1) := fun h => (ha.drop 1).hd (by omega)
          have g2 : isDol l' = false := by
            have h2 : isDol l = false := by simpa using h2
            unfold isDol at h2 ⊢
            rw [q0, q1 (by omega)]
            exact h2
          have g3 : charOkL l' = charOkL l := by
            unfold charOkL; rw [q0, q1 (by omega)]
          have g4 : charCL l' = charCL l := by
            unfold charCL; rw [q0, q1 (by omega)]
          have g5 : charNL l' = charNL l := by
            unfold charNL; rw [q0]
          rw [partsL, q0, if_neg h1, if_neg (by rw [g2]; simp), g3, if_pos h3, g4, g5]
          refine i3 k _ ?_ (by omega)
          have := ha.drop (charNL l)
          rw [show c' - c - charNL l = c' - (c + charNL l) by omega] at this
          exact this
        · rw [if_neg h3] at h
          simp at h
theorem take2_hd (l : List UInt8) (a b : UInt8) (hb : (b.toNat : Int) ≠ 0) : (l.take 2 == [a, b]) = ((hd l == (a.toNat : Int)) && (hd (l.drop 1) == (b.toNat : Int)) && !l.isEmpty) := by
  have hx : ∀ (u c : UInt8), ((u.toNat : Int) == (c.toNat : Int)) = (u == c) := fun u c => by
    rw [Bool.eq_iff_iff]
    simp only [beq_iff_eq]
    constructor
    · intro e; exact UInt8.toNat_inj.1 (by omega)
    · intro e; subst e; rfl
  rcases l with _ | ⟨x, _ | ⟨y, r⟩⟩
  · simp
  · have : ((0 : Int) == (b.toNat : Int)) = false := by
      rw [Bool.eq_false_iff]; intro e; rw [beq_iff_eq] at e; exact hb e.symm
    show (([x] : List UInt8) == [a, b]) = (((x.toNat : Int) == (a.toNat : Int)) && ((0 : Int) == (b.toNat : Int)) && _)
    rw [this]
    simp
  · show (([x, y] : List UInt8) == [a, b]) = (((x.toNat : Int) == (a.toNat : Int)) && ((y.toNat : Int) == (b.toNat : Int)) && _)
    rw [hx, hx]
    simp [List.cons_beq_cons]
theorem twoL_hd (l : List UInt8) : twoL l = true ↔ (l ≠ [] ∧ ((hd l = 61 ∧ hd (l.drop 1) = 61) ∨ (hd l = 33 ∧ hd (l.drop 1) = 61) ∨ (hd l = 60 ∧ hd (l.drop 1) = 61) ∨ (hd l = 62 ∧ hd (l.drop 1) = 61) ∨ (hd l = 38 ∧ hd (l.drop 1) = 38) ∨ (hd l = 124 ∧ hd (l.drop 1) = 124))) := by
  unfold twoL
  rw [take2_hd l 61 61 (by decide), take2_hd l 33 61 (by decide), take2_hd l 60 61 (by decide), take2_hd l 62 61 (by decide), take2_hd l 38 38 (by decide), take2_hd l 124 124 (by decide)]
  rw [show ((61 : UInt8).toNat : Int) = 61 from rfl, show ((33 : UInt8).toNat : Int) = 33 from rfl, show ((60 : UInt8).toNat : Int) = 60 from rfl, show ((62 : UInt8).toNat : Int) = 62 from rfl, show ((38 : UInt8).toNat : Int) = 38 from rfl, show ((124 : UInt8).toNat : Int) = 124 from rfl]
  cases l with
  | nil => simp [hd]
  | cons c r => simp [or_assoc]
/-- A token is told by its bytes, and one more. -/
theorem tok_alike {l : List UInt8} {t : TokL} {c : Nat} (h : tokL l = some (t, c)) : 0 < c ∧ c ≤ l.length ∧ ∀ y, Alike (l.drop c) y → tokL (l.take c ++ y) = some (t, c) := by
  unfold tokL at h
  by_cases h1 : startsB (hd l) = true
  · rw [if_pos h1] at h
    split at h
    · rename_i h2
      simp only [Option.some.injEq, Prod.mk.injEq] at h
      obtain ⟨rfl, rfl⟩ := h
      have hne : l ≠ [] := fun e => by rw [hd_nil e] at h1; exact absurd h1 (by decide)
      have e := nameN_run h2
      have hpos : 0 < nameN l := by rw [e]; exact runLen_pos hne (starts_in h1)
      have hle : nameN l ≤ l.length := by rw [e]; exact runLen_le _ _
      refine ⟨hpos, hle, fun y ha => ?_⟩
      obtain ⟨a1, a2, a3⟩ := name_alike h1 ha
      unfold tokL
      rw [a2, if_pos h1, a3, if_pos h2, a1, take_app hle]
    · simp at h
  · rw [if_neg h1] at h
    by_cases h2 : digitB (hd l) = true
    · rw [if_pos h2] at h
      split at h
      · rename_i h3
        simp only [Option.some.injEq, Prod.mk.injEq] at h
        obtain ⟨rfl, rfl⟩ := h
        have hne : l ≠ [] := fun e => by rw [hd_nil e] at h2; exact absurd h2 (by decide)
        have hpos : 0 < runLen digitB l := runLen_pos hne h2
        have hle := runLen_le digitB l
        refine ⟨hpos, hle, fun y ha => ?_⟩
        have a1 := run_alike digitB (by decide) (by decide) (by decide) (by decide) l y ha
        have a2 := hd_take (y := y) hpos hne
        unfold tokL
        rw [a2, if_neg h1, if_pos h2, a1, take_app hle, if_pos h3]
      · simp at h
    · rw [if_neg h2] at h
      by_cases h3 : hd l = 34
      · rw [if_pos h3] at h
        have hne : l ≠ [] := hd_pos_ne (by omega)
        cases hp : partsL (l.length + 1) (l.drop 1) 1 [] [] with
        | none => rw [hp] at h; simp at h
        | some q =>
          rw [hp] at h
          simp only [Option.map_some, Option.some.injEq, Prod.mk.injEq] at h
          obtain ⟨rfl, rfl⟩ := h
          obtain ⟨i1, i2, i3⟩ := parts_alike _ _ _ _ _ q.1 q.2 hp
          rw [List.length_drop] at i2
          have hlen : 0 < l.length := List.length_pos_iff.2 hne
          have hle : q.2 ≤ l.length := by omega
          refine ⟨by omega, hle, fun y ha => ?_⟩
          have a2 := hd_take (y := y) (n := q.2) (by omega) hne
          have ag := (Agree.app (y := y) hle).drop 1
          have hz : (l.take q.2 ++ y).length = q.2 + y.length := by rw [List.length_append, List.length_take]; omega
          unfold tokL
          rw [a2, if_neg h1, if_neg h2, if_pos h3, i3 ((l.take q.2 ++ y).length + 1) _ ag (by omega)]
          rfl
      · rw [if_neg h3] at h
        split at h
        · rename_i h4
          simp only [Option.some.injEq, Prod.mk.injEq] at h
          obtain ⟨rfl, rfl⟩ := h
          by_cases h5 : twoL l = true
          · have e : signN l = 2 := by unfold signN; rw [if_pos h5]
            have hw := (twoL_hd l).1 h5
            have hlen : 2 ≤ l.length := by
              rcases l with _ | ⟨x, _ | ⟨y, r⟩⟩
              · exact absurd rfl hw.1
              · have := hw.2; simp [hd] at this
              · simp
            rw [e]
            refine ⟨by omega, hlen, fun y ha => ?_⟩
            have ag := Agree.app (y := y) hlen
            have a2 : hd (l.take 2 ++ y) = hd l := ag.hd (by omega)
            have a3 : twoL (l.take 2 ++ y) = true := by
              unfold twoL at h5 ⊢
              rw [ag.take (Nat.le_refl 2)]
              exact h5
            have a4 : signN (l.take 2 ++ y) = 2 := by unfold signN; rw [if_pos a3]
            unfold tokL
            rw [a2, if_neg h1, if_neg h2, if_neg h3, a3, a4, take_app hlen]
            rfl
          · have e : signN l = 1 := by unfold signN; rw [if_neg h5]
            have h6 : oneB (hd l) = true := by
              have h5 : twoL l = false := by simpa using h5
              rw [h5] at h4; simpa using h4
            have hne : l ≠ [] := fun e => by rw [hd_nil e] at h6; exact absurd h6 (by decide)
            have hlen : 1 ≤ l.length := List.length_pos_iff.2 hne
            rw [e]
            refine ⟨by omega, hlen, fun y ha => ?_⟩
            have a2 := hd_take (y := y) (n := 1) (by omega) hne
            have a5 : (l.take 1 ++ y).drop 1 = y := by
              rw [List.drop_append_of_le_length (by rw [List.length_take]; omega)]
              simp
            have a3 : ¬ twoL (l.take 1 ++ y) = true := by
              intro hc
              have hw := (twoL_hd _).1 hc
              rw [a2, a5] at hw
              apply h5
              refine (twoL_hd l).2 ⟨hne, ?_⟩
              rcases ha with h | h | h | h | h
              · rw [← h]; exact hw.2
              all_goals (rw [h] at hw; have := hw.2; omega)
            have a4 : signN (l.take 1 ++ y) = 1 := by unfold signN; rw [if_neg a3]
            have a6 : (twoL (l.take 1 ++ y) || oneB (hd l)) = true := by rw [h6]; simp
            unfold tokL
            rw [a2, if_neg h1, if_neg h2, if_neg h3, a6, if_pos rfl, a4, take_app hlen]
        · simp at h
end Go.Proofs.YtkbbhgipajhbnaaDoor
