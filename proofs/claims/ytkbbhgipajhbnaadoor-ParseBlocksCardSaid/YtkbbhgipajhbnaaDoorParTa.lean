/- What the reader's steps leave: places, depths, faults, how many nodes. -/
import Derived.Test.YtkbbhgipajhbnaaDoorParEv
namespace Go.Proofs.YtkbbhgipajhbnaaDoor
open Go.RowKit
set_option linter.unusedVariables false
set_option linter.unusedSimpArgs false
/-- Tokens that close with an end, and hold no other one. -/
structure GoodT (T : List TokL) : Prop where
  pos : 0 < T.length
  few : T.length ≤ 20000
  last : ∃ t, T[T.length - 1]? = some t ∧ t.kind = 0 ∧ t.text = ⟨#[]⟩
  text : ∀ t ∈ T, t.text.size ≤ 10000
  parts : ∀ t ∈ T, ∀ p ∈ t.parts, p.2.size ≤ 10000
  plen : ∀ t ∈ T, t.parts.length ≤ 9000
structure OkS (T : List TokL) (S : PS) : Prop where
  lt : S.at_ < T.length
  d0 : 0 ≤ S.d
  d1 : S.d ≤ 65
  d2 : S.f = 0 → S.d ≤ 64
  e : S.f ≠ 0 → S.at_ + 1 = T.length
  f0 : 0 ≤ S.f
  f1 : S.f ≤ 6
/-- From S to S': the depth turns by dd, the nodes grow by at most k more than the place does; a fault stays. -/
structure To (T : List TokL) (dd k : Int) (S S' : PS) : Prop where
  ok : OkS T S'
  at_ : S.at_ ≤ S'.at_
  d : S'.d = S.d + dd
  n : (S'.ns.length : Int) - S'.at_ ≤ S.ns.length - S.at_ + k
  keep : S.f ≠ 0 → S'.f = S.f
theorem To.refl {T : List TokL} {S : PS} (h : OkS T S) : To T 0 0 S S := ⟨h, Nat.le_refl _, by omega, by omega, fun _ => rfl⟩
theorem To.trans {T : List TokL} {a b a' b' : Int} {S S1 S2 : PS} (h : To T a b S S1) (k : To T a' b' S1 S2) : To T (a + a') (b + b') S S2 :=
  ⟨k.ok, Nat.le_trans h.at_ k.at_, by have := h.d; have := k.d; omega, by have := h.n; have := k.n; omega, fun hf => by
    have h1 := h.keep hf
    exact (k.keep (by rw [h1]; exact hf)).trans h1⟩
theorem To.cast {T : List TokL} {a b a' b' : Int} {S S' : PS} (h : To T a b S S') (ha : a = a') (hb : b ≤ b') : To T a' b' S S' := by
  subst ha; exact ⟨h.ok, h.at_, h.d, by have := h.n; omega, h.keep⟩
section
variable {T : List TokL} (G : GoodT T)
include G
theorem GoodT.end_text {i : Nat} {t : TokL} (h : T[i]? = some t) (hi : i + 1 = T.length) : t.kind = 0 ∧ t.text = ⟨#[]⟩ := by
  obtain ⟨u, h1, h2, h3⟩ := G.last
  have : i = T.length - 1 := by omega
  rw [this, h1] at h
  cases h
  exact ⟨h2, h3⟩
theorem fail_to {S : PS} (e : Int) (he : 0 < e ∧ e ≤ 6) (h : OkS T S) : To T 0 0 S (failS T e S) := by
  have := G.pos
  have := h.lt
  have := h.f0
  have := h.f1
  refine ⟨⟨by show T.length - 1 < _; omega, h.d0, h.d1, fun hf => ?_, fun _ => by show T.length - 1 + 1 = _; omega, ?_, ?_⟩, by show S.at_ ≤ T.length - 1; omega, by show S.d = S.d + 0; omega, by show (S.ns.length : Int) - ((T.length - 1 : Nat) : Int) ≤ _; omega, fun hf => ?_⟩
  · have hf : (if S.f = 0 then e else S.f) = 0 := hf
    split at hf
    · omega
    · contradiction
  · show 0 ≤ (if S.f = 0 then e else S.f); split <;> omega
  · show (if S.f = 0 then e else S.f) ≤ 6; split <;> omega
  · show (if S.f = 0 then e else S.f) = S.f; rw [if_neg hf]
theorem fail_f {S : PS} (e : Int) (he : 0 < e) : (failS T e S).f ≠ 0 := by
  have hG := G.pos
  show (if S.f = 0 then e else S.f) ≠ 0
  split
  · omega
  · assumption
/-- A step over a token that is not the end. -/
theorem step_to {S : PS} (h : OkS T S) (hl : S.at_ + 1 < T.length) : S.f = 0 ∧ To T 0 (-1) S ⟨S.at_ + 1, S.f, S.ns, S.d⟩ := by
  have hG := G.pos
  have hf : S.f = 0 := by
    by_cases hf : S.f = 0
    · exact hf
    · have := h.e hf; omega
  exact ⟨hf, ⟨hl, h.d0, h.d1, h.d2, fun hn => absurd hf hn, h.f0, h.f1⟩, Nat.le_succ _, by show S.d = S.d + 0; omega, by show (S.ns.length : Int) - ((S.at_ + 1 : Nat) : Int) ≤ _; omega, fun _ => rfl⟩
theorem stepS_to {S S' : PS} (h : OkS T S) (hs : stepS T S = some S') : S.f = 0 ∧ S' = ⟨S.at_ + 1, S.f, S.ns, S.d⟩ ∧ To T 0 (-1) S S' := by
  unfold stepS at hs
  split at hs
  · rename_i hl
    cases hs
    exact ⟨(step_to G h hl).1, rfl, (step_to G h hl).2⟩
  · cases hs
theorem take_to {S S' : PS} {sg : ByteArray} {o : Bool} (h : OkS T S) (hs : takeS T sg S = some (o, S')) : (o = false → S' = S) ∧ (o = true → S.f = 0 ∧ S' = ⟨S.at_ + 1, S.f, S.ns, S.d⟩ ∧ To T 0 (-1) S S') := by
  unfold takeS at hs
  split at hs
  · cases hs
  · split at hs
    · split at hs
      · rename_i hl
        cases hs
        exact ⟨fun e => (by cases e), fun _ => ⟨(step_to G h hl).1, rfl, (step_to G h hl).2⟩⟩
      · cases hs
    · cases hs
      exact ⟨fun _ => rfl, fun e => (by cases e)⟩
theorem need_to {S S' : PS} {sg : ByteArray} (h : OkS T S) (hs : needS T sg S = some S') : To T 0 0 S S' := by
  unfold needS at hs
  split at hs
  · cases hs
  · rename_i S1 h1
    cases hs
    exact (((take_to G h h1).2 rfl).2.2).cast rfl (by omega)
  · rename_i S1 h1
    cases hs
    obtain rfl := (take_to G h h1).1 rfl
    exact fail_to G 5 (by decide) h
theorem name_to {S S' : PS} {x : ByteArray} (h : OkS T S) (hs : nameS T S = some (x, S')) : To T 0 0 S S' ∧ x.size ≤ 10000 := by
  unfold nameS at hs
  split at hs
  · cases hs
  · rename_i t ht
    split at hs
    · split at hs
      · rename_i hl
        cases hs
        exact ⟨(step_to G h hl).2.cast rfl (by omega), G.text t (List.mem_of_getElem? ht)⟩
      · cases hs
    · cases hs
      exact ⟨fail_to G 5 (by decide) h, Nat.zero_le _⟩
theorem open_to {S S' : PS} {sg : ByteArray} {o : Bool} (h : OkS T S) (hs : openS T sg S = some (o, S')) : (o = false → S' = S) ∧ (o = true → S.f = 0 ∧ To T 1 (-1) S S' ∧ S.at_ + 1 ≤ S'.at_) := by
  unfold openS at hs
  split at hs
  · cases hs
  · rename_i S1 h1
    cases hs
    exact ⟨fun _ => (take_to G h h1).1 rfl, fun e => (by cases e)⟩
  · rename_i S1 h1
    obtain ⟨hf, rfl, ht⟩ := (take_to G h h1).2 rfl
    split at hs
    · cases hs
      refine ⟨fun e => (by cases e), fun _ => ⟨hf, ?_⟩⟩
      have hd := h.d2 hf
      have hd0 := h.d0
      split
      · rename_i h64
        have h65 : S.d + 1 = 65 := by
          have : S.d + 1 > 64 := h64
          omega
        have hp := G.pos
        have hl := ht.ok.lt
        have hl : S.at_ + 1 < T.length := hl
        refine ⟨⟨⟨by show T.length - 1 < _; omega, by show 0 ≤ S.d + 1; omega, by show S.d + 1 ≤ 65; omega, fun hz => ?_, fun _ => by show T.length - 1 + 1 = _; omega, ?_, ?_⟩, by show S.at_ ≤ T.length - 1; omega, rfl, by show (S.ns.length : Int) - ((T.length - 1 : Nat) : Int) ≤ _; omega, fun hn => absurd hf hn⟩, by show S.at_ + 1 ≤ T.length - 1; omega⟩
        · have hz : (if S.f = 0 then (6 : Int) else S.f) = 0 := hz
          rw [if_pos hf] at hz
          cases hz
        · show 0 ≤ (if S.f = 0 then (6 : Int) else S.f); rw [if_pos hf]; decide
        · show (if S.f = 0 then (6 : Int) else S.f) ≤ 6; rw [if_pos hf]; decide
      · rename_i h64
        have h64 : ¬ S.d + 1 > 64 := h64
        exact ⟨⟨⟨ht.ok.lt, by show 0 ≤ S.d + 1; omega, by show S.d + 1 ≤ 65; omega, fun _ => by show S.d + 1 ≤ 64; omega, fun hn => absurd hf hn, h.f0, h.f1⟩, Nat.le_succ _, rfl, by show (S.ns.length : Int) - ((S.at_ + 1 : Nat) : Int) ≤ _; omega, fun hn => absurd hf hn⟩, Nat.le_refl _⟩
    · cases hs
theorem down_to {S S' : PS} (h : OkS T S) (hs : downS S = some S') : To T (-1) 0 S S' := by
  have hG := G.pos
  unfold downS at hs
  split at hs
  · rename_i hd
    cases hs
    have := h.d1
    exact ⟨⟨h.lt, by show 0 ≤ S.d - 1; omega, by show S.d - 1 ≤ 65; omega, fun _ => by show S.d - 1 ≤ 64; omega, h.e, h.f0, h.f1⟩, Nat.le_refl _, by show S.d - 1 = S.d + -1; omega, by show (S.ns.length : Int) - S.at_ ≤ _; omega, fun _ => rfl⟩
  · cases hs
theorem close_to {S S' : PS} {sg : ByteArray} (h : OkS T S) (hs : closeS T sg S = some S') : To T (-1) 0 S S' := by
  unfold closeS at hs
  split at hs
  · cases hs
  · rename_i S1 h1
    have a := need_to G h h1
    exact (a.trans (down_to G a.ok hs)).cast (by omega) (by omega)
theorem add_to {S S' : PS} {n : NodeL} {ks : List Int} (h : OkS T S) (hs : addE n S = some (ks, S')) : To T 0 1 S S' ∧ ks = [(S.ns.length : Int)] ∧ S' = ⟨S.at_, S.f, S.ns ++ [n], S.d⟩ := by
  have hG := G.pos
  unfold addE at hs
  split at hs
  · cases hs
    exact ⟨⟨⟨h.lt, h.d0, h.d1, h.d2, h.e, h.f0, h.f1⟩, Nat.le_refl _, by show S.d = S.d + 0; omega, by show ((S.ns ++ [n]).length : Int) - S.at_ ≤ _; rw [List.length_append]; simp; omega, fun _ => rfl⟩, rfl, rfl⟩
  · cases hs
def dOf : Cl → Int
  | .ahead _ => -1
  | .list _ => -1
  | .lloop _ _ => -1
  | _ => 0
def kOf : Cl → Int
  | .ahead _ => 1
  | .named _ => 1
  | _ => 0
theorem ev_post : ∀ N c S ks S', OkS T S → ev T N c S = some (ks, S') → To T (dOf c) (kOf c) S S' := by
  intro N
  induction N with
  | zero => intro c S ks S' h hs; cases c <;> cases hs
  | succ N ih =>
    intro c S ks S' h hs
    cases c with
    | expr =>
      rw [ev] at hs
      simp only [Option.bind_eq_some_iff, Prod.exists] at hs
      obtain ⟨t, S1, h1, o, S2, h2, hs⟩ := hs
      have a1 := ih _ _ _ _ h (one_eq h1)
      have a2 := open_to G a1.ok h2
      cases o with
      | false =>
        rw [if_neg (by decide)] at hs
        cases hs
        rw [a2.1 rfl]
        exact a1
      | true =>
        rw [if_pos rfl] at hs
        simp only [Option.bind_eq_some_iff, Prod.exists] at hs
        obtain ⟨y, S3, h3, S4, h4, z, S5, h5, S6, h6, hs⟩ := hs
        have b2 := (a2.2 rfl).2.1
        have b3 := ih _ _ _ _ b2.ok (one_eq h3)
        have b4 := need_to G b3.ok h4
        have b5 := ih _ _ _ _ b4.ok (one_eq h5)
        have b6 := down_to G b5.ok h6
        have b7 := (add_to G b6.ok hs).1
        exact ((((((a1.trans b2).trans b3).trans b4).trans b5).trans b6).trans b7).cast (by show _ = (0 : Int); simp [dOf]) (by show _ ≤ (0 : Int); simp [kOf])
    | bin r =>
      rw [ev] at hs
      split at hs
      · exact (ih _ _ _ _ h hs).cast rfl (Int.le_refl _)
      · simp only [Option.bind_eq_some_iff, Prod.exists] at hs
        obtain ⟨l, S1, h1, hs⟩ := hs
        have a1 := ih _ _ _ _ h (one_eq h1)
        exact (a1.trans (ih _ _ _ _ a1.ok hs)).cast rfl (Int.le_refl _)
    | loop r l =>
      rw [ev] at hs
      simp only [Option.bind_eq_some_iff, Prod.exists] at hs
      obtain ⟨t, ht, hs⟩ := hs
      split at hs
      · cases hs; exact To.refl h
      · simp only [Option.bind_eq_some_iff, Prod.exists] at hs
        obtain ⟨S1, h1, x, S2, h2, v, S3, h3, hs⟩ := hs
        have a1 := (stepS_to G h h1).2.2
        have a2 := ih _ _ _ _ a1.ok (one_eq h2)
        have a3 := (add_to G a2.ok (one_eq h3)).1
        have a4 := ((a1.trans a2).trans a3)
        split at hs
        · cases hs; exact a4.cast (by simp [dOf]) (by simp [kOf])
        · exact (a4.trans (ih _ _ _ _ a4.ok hs)).cast (by simp [dOf]) (by simp [kOf])
    | un =>
      rw [ev] at hs
      simp only [Option.bind_eq_some_iff, Prod.exists] at hs
      obtain ⟨o, S1, h1, hs⟩ := hs
      have a1 := open_to G h h1
      cases o with
      | true =>
        rw [if_pos rfl] at hs
        have b1 := (a1.2 rfl).2.1
        exact (b1.trans (ih _ _ _ _ b1.ok hs)).cast (by simp [dOf]) (by simp [kOf])
      | false =>
        rw [if_neg (by decide)] at hs
        obtain rfl := a1.1 rfl
        simp only [Option.bind_eq_some_iff, Prod.exists] at hs
        obtain ⟨p, S2, h2, hs⟩ := hs
        have a2 := open_to G h h2
        cases p with
        | true =>
          rw [if_pos rfl] at hs
          have b1 := (a2.2 rfl).2.1
          exact (b1.trans (ih _ _ _ _ b1.ok hs)).cast (by simp [dOf]) (by simp [kOf])
        | false =>
          rw [if_neg (by decide)] at hs
          obtain rfl := a2.1 rfl
          exact (ih _ _ _ _ h hs).cast rfl (Int.le_refl _)
    | ahead k =>
      rw [ev] at hs
      simp only [Option.bind_eq_some_iff, Prod.exists] at hs
      obtain ⟨v, S1, h1, S2, h2, hs⟩ := hs
      have a1 := ih _ _ _ _ h (one_eq h1)
      have a2 := down_to G a1.ok h2
      exact ((a1.trans a2).trans (add_to G a2.ok hs).1).cast (by simp [dOf]) (by simp [kOf])
    | post =>
      rw [ev] at hs
      simp only [Option.bind_eq_some_iff, Prod.exists] at hs
      obtain ⟨l, S1, h1, hs⟩ := hs
      have a1 := ih _ _ _ _ h (one_eq h1)
      exact (a1.trans (ih _ _ _ _ a1.ok hs)).cast (by simp [dOf]) (by simp [kOf])
    | ploop l =>
      rw [ev] at hs
      simp only [Option.bind_eq_some_iff, Prod.exists] at hs
      obtain ⟨o, S1, h1, hs⟩ := hs
      have a1 := open_to G h h1
      cases o with
      | false =>
        rw [if_neg (by decide)] at hs
        cases hs
        rw [a1.1 rfl]
        exact To.refl h
      | true =>
        rw [if_pos rfl] at hs
        simp only [Option.bind_eq_some_iff, Prod.exists] at hs
        obtain ⟨i, S2, h2, S3, h3, v, S4, h4, hs⟩ := hs
        have b1 := (a1.2 rfl).2.1
        have b2 := ih _ _ _ _ b1.ok (one_eq h2)
        have b3 := close_to G b2.ok h3
        have b4 := (add_to G b3.ok (one_eq h4)).1
        have b5 := ((b1.trans b2).trans b3).trans b4
        exact (b5.trans (ih _ _ _ _ b5.ok hs)).cast (by simp [dOf]) (by simp [kOf])
    | prim =>
      rw [ev] at hs
      simp only [Option.bind_eq_some_iff, Prod.exists] at hs
      obtain ⟨t, ht, hs⟩ := hs
      split at hs
      · simp only [Option.bind_eq_some_iff] at hs
        obtain ⟨S1, h1, hs⟩ := hs
        have a1 := (stepS_to G h h1).2.2
        exact (a1.trans (add_to G a1.ok hs).1).cast (by simp [dOf]) (by simp [kOf])
      · split at hs
        · simp only [Option.bind_eq_some_iff] at hs
          obtain ⟨S1, h1, hs⟩ := hs
          have a1 := (stepS_to G h h1).2.2
          exact (a1.trans (add_to G a1.ok hs).1).cast (by simp [dOf]) (by simp [kOf])
        · split at hs
          · simp only [Option.bind_eq_some_iff] at hs
            obtain ⟨S1, h1, hs⟩ := hs
            have a1 := (stepS_to G h h1).2.2
            exact (a1.trans (ih _ _ _ _ a1.ok hs)).cast (by simp [dOf]) (by simp [kOf])
          · simp only [Option.bind_eq_some_iff, Prod.exists] at hs
            obtain ⟨o, S1, h1, hs⟩ := hs
            have a1 := open_to G h h1
            cases o with
            | true =>
              rw [if_pos rfl] at hs
              simp only [Option.bind_eq_some_iff, Prod.exists] at hs
              obtain ⟨l, S2, h2, hs⟩ := hs
              have b1 := (a1.2 rfl).2.1
              have b2 := ih _ _ _ _ b1.ok h2
              exact ((b1.trans b2).trans (add_to G b2.ok hs).1).cast (by simp [dOf]) (by simp [kOf])
            | false =>
              rw [if_neg (by decide)] at hs
              obtain rfl := a1.1 rfl
              simp only [Option.bind_eq_some_iff, Prod.exists] at hs
              obtain ⟨p, S2, h2, hs⟩ := hs
              have a2 := open_to G h h2
              cases p with
              | true =>
                rw [if_pos rfl] at hs
                simp only [Option.bind_eq_some_iff, Prod.exists] at hs
                obtain ⟨v, S3, h3, S4, h4, hs⟩ := hs
                cases hs
                have b1 := (a2.2 rfl).2.1
                have b2 := ih _ _ _ _ b1.ok (one_eq h3)
                exact ((b1.trans b2).trans (close_to G b2.ok h4)).cast (by simp [dOf]) (by simp [dOf, kOf])
              | false =>
                rw [if_neg (by decide)] at hs
                cases hs
                obtain rfl := a2.1 rfl
                exact (fail_to G 5 (by decide) h)
    | named x =>
      rw [ev] at hs
      split at hs
      · exact (add_to G h hs).1
      · split at hs
        · exact (add_to G h hs).1
        · simp only [Option.bind_eq_some_iff, Prod.exists] at hs
          obtain ⟨o, S1, h1, hs⟩ := hs
          have a1 := open_to G h h1
          cases o with
          | true =>
            rw [if_pos rfl] at hs
            simp only [Option.bind_eq_some_iff, Prod.exists] at hs
            obtain ⟨l, S2, h2, hs⟩ := hs
            have b1 := (a1.2 rfl).2.1
            have b2 := ih _ _ _ _ b1.ok h2
            exact ((b1.trans b2).trans (add_to G b2.ok hs).1).cast (by simp [dOf]) (by simp [kOf])
          | false =>
            rw [if_neg (by decide)] at hs
            obtain rfl := a1.1 rfl
            simp only [Option.bind_eq_some_iff, Prod.exists] at hs
            obtain ⟨S2, h2, y, S3, h3, hs⟩ := hs
            have b2 := need_to G h h2
            have b3 := (name_to G b2.ok h3).1
            split at hs
            · exact ((b2.trans b3).trans (add_to G b3.ok hs).1).cast (by simp [dOf]) (by simp [kOf])
            · cases hs
    | list e =>
      rw [ev] at hs
      simp only [Option.bind_eq_some_iff, Prod.exists] at hs
      obtain ⟨t, ht, hs⟩ := hs
      split at hs
      · simp only [Option.bind_eq_some_iff] at hs
        obtain ⟨S1, h1, hs⟩ := hs
        cases hs
        exact close_to G h h1
      · simp only [Option.bind_eq_some_iff, Prod.exists] at hs
        obtain ⟨v, S1, h1, hs⟩ := hs
        have a1 := ih _ _ _ _ h (one_eq h1)
        exact (a1.trans (ih _ _ _ _ a1.ok hs)).cast (by simp [dOf]) (by simp [kOf])
    | lloop l e =>
      rw [ev] at hs
      simp only [Option.bind_eq_some_iff, Prod.exists] at hs
      obtain ⟨o, S1, h1, hs⟩ := hs
      have a1 := take_to G h h1
      cases o with
      | true =>
        rw [if_pos rfl] at hs
        simp only [Option.bind_eq_some_iff, Prod.exists] at hs
        obtain ⟨v, S2, h2, hs⟩ := hs
        have b1 := (a1.2 rfl).2.2
        have b2 := ih _ _ _ _ b1.ok (one_eq h2)
        split at hs
        · have b3 := b1.trans b2
          exact (b3.trans (ih _ _ _ _ b3.ok hs)).cast (by simp [dOf]) (by simp [kOf])
        · cases hs
      | false =>
        rw [if_neg (by decide)] at hs
        simp only [Option.bind_eq_some_iff] at hs
        obtain ⟨S2, h2, hs⟩ := hs
        cases hs
        obtain rfl := a1.1 rfl
        exact close_to G h h2
end
end Go.Proofs.YtkbbhgipajhbnaaDoor
