/- An expression within other tokens comes to the same as alone: all of the reader's methods. -/
import Derived.Test.YtkbbhgipajhbnaaDoorParBa
namespace Go.Proofs.YtkbbhgipajhbnaaDoor
open Go.RowKit
set_option linter.unusedVariables false
set_option linter.unusedSimpArgs false
theorem op_close (x : ByteArray) (h : x = ⟨#[41]⟩ ∨ x = ⟨#[125]⟩) (r : Int) : opOf x r = 0 := by
  rcases h with rfl | rfl
  · have h : opKind ⟨#[41]⟩ = (0, 0) := by decide +kernel
    unfold opOf; rw [h]; simp
  · have h : opKind ⟨#[125]⟩ = (0, 0) := by decide +kernel
    unfold opOf; rw [h]; simp
section
variable {T T' : List TokL} {p : Nat} (X : Sim T T' p) (q : Int)
include X
/-- The end of the list that a method reads is a sign. -/
def EndC : Cl → Prop
  | .list e => e ≠ ⟨#[]⟩
  | .lloop _ e => e ≠ ⟨#[]⟩
  | _ => True
theorem ev_sim : ∀ N c S ks S' kt St, OkS T S → OkS T' (shS p q S) → EndC c → ev T N c S = some (ks, S') → S'.f = 0 → ev T' N c (shS p q S) = some (kt, St) → (St.f ≠ 6 ∨ q = 0) → kt = ks ∧ St = shS p q S' := by
  intro N
  induction N with
  | zero => intro c S ks S' kt St _ _ _ h1; cases c <;> cases h1
  | succ N ih =>
    intro c S ks S' kt St h h' hc h1 h0 h2 h6
    have ih1 : ∀ c S v S' vt St, OkS T S → OkS T' (shS p q S) → EndC c → one (ev T N c S) = some (v, S') → S'.f = 0 → one (ev T' N c (shS p q S)) = some (vt, St) → (St.f ≠ 6 ∨ q = 0) → vt = v ∧ St = shS p q S' := by
      intro c S v S' vt St h h' hc h1 h0 h2 h6
      obtain ⟨e1, e2⟩ := ih _ _ _ _ _ _ h h' hc (one_eq h1) h0 (one_eq h2) h6
      exact ⟨by simpa using e1, e2⟩
    cases c with
    | expr =>
      rw [ev] at h1 h2
      simp only [Option.bind_eq_some_iff, Prod.exists] at h1 h2
      obtain ⟨t, S1, a1, o, S2, a2, h1⟩ := h1
      obtain ⟨t', U1, b1, o', U2, b2, h2⟩ := h2
      have p1 := ev_post X.G _ _ _ _ _ h (one_eq a1)
      have r1 := ev_post X.G' _ _ _ _ _ h' (one_eq b1)
      have q2 := open_to X.G p1.ok a2
      have s2 := open_to X.G' r1.ok b2
      cases o with
      | false =>
        rw [if_neg (by decide)] at h1
        cases h1
        obtain rfl := q2.1 rfl
        have key := fun (k : U1.f ≠ 6 ∨ q = 0) => ih1 _ _ _ _ _ _ h h' (by trivial) a1 h0 b1 k
        cases o' with
        | false =>
          rw [if_neg (by decide)] at h2
          cases h2
          obtain rfl := s2.1 rfl
          obtain ⟨rfl, rfl⟩ := key h6
          exact ⟨rfl, rfl⟩
        | true =>
          have hf := (s2.2 rfl).1
          obtain ⟨rfl, rfl⟩ := key (.inl (by rw [hf]; decide))
          rw [if_pos rfl] at h2
          simp only [Option.bind_eq_some_iff, Prod.exists] at h2
          obtain ⟨y, U3, b3, U4, b4, z, U5, b5, U6, b6, h2⟩ := h2
          have r3 := ev_post X.G' _ _ _ _ _ (s2.2 rfl).2.1.ok (one_eq b3)
          have r4 := need_to X.G' r3.ok b4
          have r5 := ev_post X.G' _ _ _ _ _ r4.ok (one_eq b5)
          have r6 := down_to X.G' r5.ok b6
          have r7 := (add_to X.G' r6.ok h2).1
          have k := (open_sim X q p1.ok ⟨by decide, by decide, by decide⟩ a2 h0 b2 ((((((r3.trans r4).trans r5).trans r6).trans r7)).six h6)).1
          cases k
      | true =>
        rw [if_pos rfl] at h1
        simp only [Option.bind_eq_some_iff, Prod.exists] at h1
        obtain ⟨y, S3, a3, S4, a4, z, S5, a5, S6, a6, h1⟩ := h1
        have q2 := (q2.2 rfl).2.1
        have q3 := ev_post X.G _ _ _ _ _ q2.ok (one_eq a3)
        have q4 := need_to X.G q3.ok a4
        have q5 := ev_post X.G _ _ _ _ _ q4.ok (one_eq a5)
        have q6 := down_to X.G q5.ok a6
        have q7 := (add_to X.G q6.ok h1).1
        have z6 := q7.zero h0
        have z5 := q6.zero z6
        have z4 := q5.zero z5
        have z3 := q4.zero z4
        have z2 := q3.zero z3
        have z1 := q2.zero z2
        have first : (U1.f ≠ 6 ∨ q = 0) → (U2.f ≠ 6 ∨ q = 0) → t' = t ∧ o' = true ∧ U2 = shS p q S2 := fun k1 k2 => by
          obtain ⟨rfl, rfl⟩ := ih1 _ _ _ _ _ _ h h' (by trivial) a1 z1 b1 k1
          obtain ⟨rfl, rfl⟩ := open_sim X q p1.ok ⟨by decide, by decide, by decide⟩ a2 z2 b2 k2
          exact ⟨rfl, rfl, rfl⟩
        cases o' with
        | false =>
          rw [if_neg (by decide)] at h2
          cases h2
          obtain rfl := s2.1 rfl
          obtain ⟨-, k, -⟩ := first h6 h6
          cases k
        | true =>
          rw [if_pos rfl] at h2
          simp only [Option.bind_eq_some_iff, Prod.exists] at h2
          obtain ⟨y', U3, b3, U4, b4, z', U5, b5, U6, b6, h2⟩ := h2
          have r2 := (s2.2 rfl).2.1
          have r3 := ev_post X.G' _ _ _ _ _ r2.ok (one_eq b3)
          have r4 := need_to X.G' r3.ok b4
          have r5 := ev_post X.G' _ _ _ _ _ r4.ok (one_eq b5)
          have r6 := down_to X.G' r5.ok b6
          have r7 := (add_to X.G' r6.ok h2).1
          have k6 := r7.six h6
          have k5 := r6.six k6
          have k4 := r5.six k5
          have k3 := r4.six k4
          have k2 := r3.six k3
          have k1 := r2.six k2
          obtain ⟨rfl, -, rfl⟩ := first k1 k2
          obtain ⟨rfl, rfl⟩ := ih1 _ _ _ _ _ _ q2.ok r2.ok (by trivial) a3 z3 b3 k3
          obtain rfl := need_sim X q q3.ok (by decide) a4 z4 b4
          obtain ⟨rfl, rfl⟩ := ih1 _ _ _ _ _ _ q4.ok r4.ok (by trivial) a5 z5 b5 k5
          obtain rfl := down_sim X q a6 b6
          exact add_sim X q h1 h2
    | bin r =>
      rw [ev] at h1 h2
      by_cases h66 : r = 6
      · rw [if_pos h66] at h1 h2
        exact ih _ _ _ _ _ _ h h' (by trivial) h1 h0 h2 h6
      · rw [if_neg h66] at h1 h2
        simp only [Option.bind_eq_some_iff, Prod.exists] at h1 h2
        obtain ⟨l, S1, a1, h1⟩ := h1
        obtain ⟨l', U1, b1, h2⟩ := h2
        have p1 := ev_post X.G _ _ _ _ _ h (one_eq a1)
        have r1 := ev_post X.G' _ _ _ _ _ h' (one_eq b1)
        have p2 := ev_post X.G _ _ _ _ _ p1.ok h1
        have r2 := ev_post X.G' _ _ _ _ _ r1.ok h2
        obtain ⟨rfl, rfl⟩ := ih1 _ _ _ _ _ _ h h' (by trivial) a1 (p2.zero h0) b1 (r2.six h6)
        exact ih _ _ _ _ _ _ p1.ok r1.ok (by trivial) h1 h0 h2 h6
    | loop r l =>
      rw [ev] at h1 h2
      rcases at_sim X h with ⟨he, ht⟩ | ⟨he, c, ht, -, hcc⟩
      · have ht : T'[(shS p q S).at_]? = T[S.at_]? := ht
        rw [ht] at h2
        obtain ⟨t, htt⟩ := tok_ex X.G h
        rw [htt] at h1 h2
        simp only [Option.bind_some] at h1 h2
        by_cases ho : opOf t.text r = 0
        · rw [if_pos ho] at h1 h2
          cases h1; cases h2
          exact ⟨rfl, rfl⟩
        · rw [if_neg ho] at h1 h2
          simp only [Option.bind_eq_some_iff, Prod.exists] at h1 h2
          obtain ⟨S1, a1, x, S2, a2, v, S3, a3, h1⟩ := h1
          obtain ⟨U1, b1, x', U2, b2, v', U3, b3, h2⟩ := h2
          have p1 := (stepS_to X.G h a1).2.2
          have r1 := (stepS_to X.G' h' b1).2.2
          have p2 := ev_post X.G _ _ _ _ _ p1.ok (one_eq a2)
          have r2 := ev_post X.G' _ _ _ _ _ r1.ok (one_eq b2)
          have p3 := (add_to X.G p2.ok (one_eq a3)).1
          have r3 := (add_to X.G' r2.ok (one_eq b3)).1
          obtain ⟨rfl, -⟩ := step_sim X q a1 b1
          have fin : S3.f = 0 → (U3.f ≠ 6 ∨ q = 0) → v' = v ∧ U3 = shS p q S3 := fun z3 k3 => by
            obtain ⟨rfl, rfl⟩ := ih1 _ _ _ _ _ _ p1.ok r1.ok (by trivial) a2 (p3.zero z3) b2 (r3.six k3)
            obtain ⟨e1, e2⟩ := add_sim X q (one_eq a3) (one_eq b3)
            exact ⟨by simpa using e1, e2⟩
          by_cases hr3 : r = 3
          · rw [if_pos hr3] at h1 h2
            cases h1; cases h2
            obtain ⟨rfl, rfl⟩ := fin h0 h6
            exact ⟨rfl, rfl⟩
          · rw [if_neg hr3] at h1 h2
            have p4 := ev_post X.G _ _ _ _ _ p3.ok h1
            have r4 := ev_post X.G' _ _ _ _ _ r3.ok h2
            obtain ⟨rfl, rfl⟩ := fin (p4.zero h0) (r4.six h6)
            exact ih _ _ _ _ _ _ p3.ok r3.ok (by trivial) h1 h0 h2 h6
      · have ht : T'[(shS p q S).at_]? = some c := ht
        rw [ht] at h2
        obtain ⟨t, htt⟩ := tok_ex X.G h
        obtain ⟨-, t1⟩ := X.G.end_text htt he
        rw [htt] at h1
        simp only [Option.bind_some] at h1 h2
        rw [if_pos (by rw [t1, op_end X.G])] at h1
        rw [if_pos (op_close _ hcc r)] at h2
        cases h1; cases h2
        exact ⟨rfl, rfl⟩
    | un =>
      rw [ev] at h1 h2
      simp only [Option.bind_eq_some_iff, Prod.exists] at h1 h2
      obtain ⟨o, S1, a1, h1⟩ := h1
      obtain ⟨o', U1, b1, h2⟩ := h2
      have q1 := open_to X.G h a1
      have s1 := open_to X.G' h' b1
      have g1 : S1.f = 0 := by
        cases o with
        | true =>
          rw [if_pos rfl] at h1
          exact (ev_post X.G _ _ _ _ _ (q1.2 rfl).2.1.ok h1).zero h0
        | false =>
          rw [if_neg (by decide)] at h1
          obtain rfl := q1.1 rfl
          simp only [Option.bind_eq_some_iff, Prod.exists] at h1
          obtain ⟨o2, S2, a2, h1⟩ := h1
          have q2 := open_to X.G h a2
          cases o2 with
          | true => exact (q2.2 rfl).1
          | false =>
            rw [if_neg (by decide)] at h1
            obtain rfl := q2.1 rfl
            exact (ev_post X.G _ _ _ _ _ h h1).zero h0
      have g2 : U1.f ≠ 6 ∨ q = 0 := by
        cases o' with
        | true =>
          rw [if_pos rfl] at h2
          exact (ev_post X.G' _ _ _ _ _ (s1.2 rfl).2.1.ok h2).six h6
        | false =>
          obtain rfl := s1.1 rfl
          rw [if_neg (by decide)] at h2
          simp only [Option.bind_eq_some_iff, Prod.exists] at h2
          obtain ⟨o2, U2, b2, h2⟩ := h2
          have q2 := open_to X.G' h' b2
          cases o2 with
          | true => exact .inl (by rw [(q2.2 rfl).1]; decide)
          | false =>
            rw [if_neg (by decide)] at h2
            obtain rfl := q2.1 rfl
            exact (ev_post X.G' _ _ _ _ _ h' h2).six h6
      obtain ⟨rfl, rfl⟩ := open_sim X q h ⟨by decide, by decide, by decide⟩ a1 g1 b1 g2
      cases o' with
      | true =>
        rw [if_pos rfl] at h1 h2
        exact ih _ _ _ _ _ _ (q1.2 rfl).2.1.ok (s1.2 rfl).2.1.ok (by trivial) h1 h0 h2 h6
      | false =>
        rw [if_neg (by decide)] at h1 h2
        obtain rfl := q1.1 rfl
        simp only [Option.bind_eq_some_iff, Prod.exists] at h1 h2
        obtain ⟨o2, S2, a2, h1⟩ := h1
        obtain ⟨o2', U2, b2, h2⟩ := h2
        have q2 := open_to X.G h a2
        have s2 := open_to X.G' h' b2
        have g3 : S2.f = 0 := by
          cases o2 with
          | true =>
            rw [if_pos rfl] at h1
            exact (ev_post X.G _ _ _ _ _ (q2.2 rfl).2.1.ok h1).zero h0
          | false => obtain rfl := q2.1 rfl; exact g1
        have g4 : U2.f ≠ 6 ∨ q = 0 := by
          cases o2' with
          | true =>
            rw [if_pos rfl] at h2
            exact (ev_post X.G' _ _ _ _ _ (s2.2 rfl).2.1.ok h2).six h6
          | false => obtain rfl := s2.1 rfl; exact g2
        obtain ⟨rfl, rfl⟩ := open_sim X q h ⟨by decide, by decide, by decide⟩ a2 g3 b2 g4
        cases o2' with
        | true =>
          rw [if_pos rfl] at h1 h2
          exact ih _ _ _ _ _ _ (q2.2 rfl).2.1.ok (s2.2 rfl).2.1.ok (by trivial) h1 h0 h2 h6
        | false =>
          rw [if_neg (by decide)] at h1 h2
          obtain rfl := q2.1 rfl
          exact ih _ _ _ _ _ _ h h' (by trivial) h1 h0 h2 h6
    | ahead k =>
      rw [ev] at h1 h2
      simp only [Option.bind_eq_some_iff, Prod.exists] at h1 h2
      obtain ⟨v, S1, a1, S2, a2, h1⟩ := h1
      obtain ⟨v', U1, b1, U2, b2, h2⟩ := h2
      have p1 := ev_post X.G _ _ _ _ _ h (one_eq a1)
      have r1 := ev_post X.G' _ _ _ _ _ h' (one_eq b1)
      have p2 := down_to X.G p1.ok a2
      have r2 := down_to X.G' r1.ok b2
      have p3 := (add_to X.G p2.ok h1).1
      have r3 := (add_to X.G' r2.ok h2).1
      obtain ⟨rfl, rfl⟩ := ih1 _ _ _ _ _ _ h h' (by trivial) a1 (p2.zero (p3.zero h0)) b1 (r2.six (r3.six h6))
      obtain rfl := down_sim X q a2 b2
      exact add_sim X q h1 h2
    | post =>
      rw [ev] at h1 h2
      simp only [Option.bind_eq_some_iff, Prod.exists] at h1 h2
      obtain ⟨l, S1, a1, h1⟩ := h1
      obtain ⟨l', U1, b1, h2⟩ := h2
      have p1 := ev_post X.G _ _ _ _ _ h (one_eq a1)
      have r1 := ev_post X.G' _ _ _ _ _ h' (one_eq b1)
      have p2 := ev_post X.G _ _ _ _ _ p1.ok h1
      have r2 := ev_post X.G' _ _ _ _ _ r1.ok h2
      obtain ⟨rfl, rfl⟩ := ih1 _ _ _ _ _ _ h h' (by trivial) a1 (p2.zero h0) b1 (r2.six h6)
      exact ih _ _ _ _ _ _ p1.ok r1.ok (by trivial) h1 h0 h2 h6
    | ploop l =>
      rw [ev] at h1 h2
      simp only [Option.bind_eq_some_iff, Prod.exists] at h1 h2
      obtain ⟨o, S1, a1, h1⟩ := h1
      obtain ⟨o', U1, b1, h2⟩ := h2
      have q1 := open_to X.G h a1
      have s1 := open_to X.G' h' b1
      have g1 : S1.f = 0 := by
        cases o with
        | true =>
          rw [if_pos rfl] at h1
          simp only [Option.bind_eq_some_iff, Prod.exists] at h1
          obtain ⟨i, S2, a2, S3, a3, v, S4, a4, h1⟩ := h1
          have p2 := ev_post X.G _ _ _ _ _ (q1.2 rfl).2.1.ok (one_eq a2)
          have p3 := close_to X.G p2.ok a3
          have p4 := (add_to X.G p3.ok (one_eq a4)).1
          have p5 := ev_post X.G _ _ _ _ _ p4.ok h1
          exact p2.zero (p3.zero (p4.zero (p5.zero h0)))
        | false =>
          rw [if_neg (by decide)] at h1
          cases h1; exact h0
      have g2 : U1.f ≠ 6 ∨ q = 0 := by
        cases o' with
        | true =>
          rw [if_pos rfl] at h2
          simp only [Option.bind_eq_some_iff, Prod.exists] at h2
          obtain ⟨i, U2, b2, U3, b3, v, U4, b4, h2⟩ := h2
          have p2 := ev_post X.G' _ _ _ _ _ (s1.2 rfl).2.1.ok (one_eq b2)
          have p3 := close_to X.G' p2.ok b3
          have p4 := (add_to X.G' p3.ok (one_eq b4)).1
          have p5 := ev_post X.G' _ _ _ _ _ p4.ok h2
          exact p2.six (p3.six (p4.six (p5.six h6)))
        | false =>
          rw [if_neg (by decide)] at h2
          cases h2; exact h6
      obtain ⟨rfl, rfl⟩ := open_sim X q h ⟨by decide, by decide, by decide⟩ a1 g1 b1 g2
      cases o' with
      | false =>
        rw [if_neg (by decide)] at h1 h2
        cases h1; cases h2
        exact ⟨rfl, rfl⟩
      | true =>
        rw [if_pos rfl] at h1 h2
        simp only [Option.bind_eq_some_iff, Prod.exists] at h1 h2
        obtain ⟨i, S2, a2, S3, a3, v, S4, a4, h1⟩ := h1
        obtain ⟨i', U2, b2, U3, b3, v', U4, b4, h2⟩ := h2
        have p1 := (q1.2 rfl).2.1
        have r1 := (s1.2 rfl).2.1
        have p2 := ev_post X.G _ _ _ _ _ p1.ok (one_eq a2)
        have p3 := close_to X.G p2.ok a3
        have p4 := (add_to X.G p3.ok (one_eq a4)).1
        have p5 := ev_post X.G _ _ _ _ _ p4.ok h1
        have r2 := ev_post X.G' _ _ _ _ _ r1.ok (one_eq b2)
        have r3 := close_to X.G' r2.ok b3
        have r4 := (add_to X.G' r3.ok (one_eq b4)).1
        have r5 := ev_post X.G' _ _ _ _ _ r4.ok h2
        have z4 := p5.zero h0
        have z3 := p4.zero z4
        have k4 := r5.six h6
        have k3 := r4.six k4
        obtain ⟨rfl, rfl⟩ := ih1 _ _ _ _ _ _ p1.ok r1.ok (by trivial) a2 (p3.zero z3) b2 (r3.six k3)
        obtain rfl := close_sim X q p2.ok (by decide) a3 z3 b3
        obtain ⟨e1, rfl⟩ := add_sim X q (one_eq a4) (one_eq b4)
        obtain rfl : v' = v := by simpa using e1
        exact ih _ _ _ _ _ _ p4.ok r4.ok (by trivial) h1 h0 h2 h6
    | prim =>
      by_cases he : S.at_ + 1 < T.length
      · have ht : T'[(shS p q S).at_]? = T[S.at_]? := X.tok _ he
        rw [ev] at h1 h2
        rw [ht] at h2
        obtain ⟨t, htt⟩ := tok_ex X.G h
        rw [htt] at h1 h2
        simp only [Option.bind_some] at h1 h2
        have leaf : ∀ n : NodeL, ((stepS T S).bind fun S1 => addE n S1) = some (ks, S') → ((stepS T' (shS p q S)).bind fun S1 => addE n S1) = some (kt, St) → kt = ks ∧ St = shS p q S' := fun n h1 h2 => by
          simp only [Option.bind_eq_some_iff] at h1 h2
          obtain ⟨S1, a1, h1⟩ := h1
          obtain ⟨U1, b1, h2⟩ := h2
          obtain ⟨rfl, -⟩ := step_sim X q a1 b1
          exact add_sim X q h1 h2
        by_cases k1 : t.kind = 1
        · rw [if_pos k1] at h1 h2; exact leaf _ h1 h2
        · rw [if_neg k1] at h1 h2
          by_cases k2 : t.kind = 2
          · rw [if_pos k2] at h1 h2; exact leaf _ h1 h2
          · rw [if_neg k2] at h1 h2
            by_cases k3 : t.kind = 3
            · rw [if_pos k3] at h1 h2
              simp only [Option.bind_eq_some_iff] at h1 h2
              obtain ⟨S1, a1, h1⟩ := h1
              obtain ⟨U1, b1, h2⟩ := h2
              have p1 := (stepS_to X.G h a1).2.2
              have r1 := (stepS_to X.G' h' b1).2.2
              obtain ⟨rfl, -⟩ := step_sim X q a1 b1
              exact ih _ _ _ _ _ _ p1.ok r1.ok (by trivial) h1 h0 h2 h6
            · rw [if_neg k3] at h1 h2
              simp only [Option.bind_eq_some_iff, Prod.exists] at h1 h2
              obtain ⟨o, S1, a1, h1⟩ := h1
              obtain ⟨o', U1, b1, h2⟩ := h2
              have q1 := open_to X.G h a1
              have s1 := open_to X.G' h' b1
              have g1 : S1.f = 0 := by
                cases o with
                | true =>
                  rw [if_pos rfl] at h1
                  simp only [Option.bind_eq_some_iff, Prod.exists] at h1
                  obtain ⟨l, S2, a2, h1⟩ := h1
                  have p2 := ev_post X.G _ _ _ _ _ (q1.2 rfl).2.1.ok a2
                  exact p2.zero ((add_to X.G p2.ok h1).1.zero h0)
                | false =>
                  rw [if_neg (by decide)] at h1
                  obtain rfl := q1.1 rfl
                  simp only [Option.bind_eq_some_iff, Prod.exists] at h1
                  obtain ⟨o2, S2, a2, h1⟩ := h1
                  have q2 := open_to X.G h a2
                  cases o2 with
                  | true => exact (q2.2 rfl).1
                  | false =>
                    rw [if_neg (by decide)] at h1
                    cases h1
                    exact absurd h0 (fail_f X.G 5 (by decide))
              have g2 : U1.f ≠ 6 ∨ q = 0 := by
                cases o' with
                | true =>
                  rw [if_pos rfl] at h2
                  simp only [Option.bind_eq_some_iff, Prod.exists] at h2
                  obtain ⟨l, U2, b2, h2⟩ := h2
                  have r2 := ev_post X.G' _ _ _ _ _ (s1.2 rfl).2.1.ok b2
                  exact r2.six ((add_to X.G' r2.ok h2).1.six h6)
                | false =>
                  obtain rfl := s1.1 rfl
                  rw [if_neg (by decide)] at h2
                  simp only [Option.bind_eq_some_iff, Prod.exists] at h2
                  obtain ⟨o2, U2, b2, h2⟩ := h2
                  have q2 := open_to X.G' h' b2
                  cases o2 with
                  | true => exact .inl (by rw [(q2.2 rfl).1]; decide)
                  | false =>
                    rw [if_neg (by decide)] at h2
                    cases h2
                    obtain rfl := q2.1 rfl
                    exact (fail_to X.G' 5 (by decide) h').six h6
              obtain ⟨rfl, rfl⟩ := open_sim X q h ⟨by decide, by decide, by decide⟩ a1 g1 b1 g2
              cases o' with
              | true =>
                rw [if_pos rfl] at h1 h2
                simp only [Option.bind_eq_some_iff, Prod.exists] at h1 h2
                obtain ⟨l, S2, a2, h1⟩ := h1
                obtain ⟨l', U2, b2, h2⟩ := h2
                have p1 := (q1.2 rfl).2.1
                have r1 := (s1.2 rfl).2.1
                have p2 := ev_post X.G _ _ _ _ _ p1.ok a2
                have r2 := ev_post X.G' _ _ _ _ _ r1.ok b2
                obtain ⟨rfl, rfl⟩ := ih _ _ _ _ _ _ p1.ok r1.ok (by show (⟨#[93]⟩ : ByteArray) ≠ ⟨#[]⟩; decide) a2 ((add_to X.G p2.ok h1).1.zero h0) b2 ((add_to X.G' r2.ok h2).1.six h6)
                exact add_sim X q h1 h2
              | false =>
                rw [if_neg (by decide)] at h1 h2
                obtain rfl := q1.1 rfl
                simp only [Option.bind_eq_some_iff, Prod.exists] at h1 h2
                obtain ⟨o2, S2, a2, h1⟩ := h1
                obtain ⟨o2', U2, b2, h2⟩ := h2
                have q2 := open_to X.G h a2
                have s2 := open_to X.G' h' b2
                cases o2 with
                | false =>
                  rw [if_neg (by decide)] at h1
                  cases h1
                  exact absurd h0 (fail_f X.G 5 (by decide))
                | true =>
                  rw [if_pos rfl] at h1
                  simp only [Option.bind_eq_some_iff, Prod.exists] at h1
                  obtain ⟨v, S3, a3, S4, a4, h1⟩ := h1
                  cases h1
                  have p1 := (q2.2 rfl).2.1
                  have p2 := ev_post X.G _ _ _ _ _ p1.ok (one_eq a3)
                  have p3 := close_to X.G p2.ok a4
                  have z3 := p3.zero h0
                  have z2 := p2.zero z3
                  cases o2' with
                  | false =>
                    obtain rfl := s2.1 rfl
                    obtain ⟨k, -⟩ := open_sim X q h ⟨by decide, by decide, by decide⟩ a2 z2 b2 (.inl (by show S1.f ≠ 6; rw [g1]; decide))
                    cases k
                  | true =>
                    rw [if_pos rfl] at h2
                    simp only [Option.bind_eq_some_iff, Prod.exists] at h2
                    obtain ⟨v', U3, b3, U4, b4, h2⟩ := h2
                    cases h2
                    have r1 := (s2.2 rfl).2.1
                    have r2 := ev_post X.G' _ _ _ _ _ r1.ok (one_eq b3)
                    have r3 := close_to X.G' r2.ok b4
                    have k3 := r3.six h6
                    obtain ⟨-, rfl⟩ := open_sim X q h ⟨by decide, by decide, by decide⟩ a2 z2 b2 (r2.six k3)
                    obtain ⟨rfl, rfl⟩ := ih1 _ _ _ _ _ _ p1.ok r1.ok (by trivial) a3 z3 b3 k3
                    obtain rfl := close_sim X q p2.ok (by decide) a4 h0 b4
                    exact ⟨rfl, rfl⟩
      · have hl := h.lt
        exact absurd h0 (end_fail X.G (N + 1) .prim S ks S' h (by omega) (.inr (.inr (.inr (.inr rfl)))) h1)
    | named x =>
      rw [ev] at h1 h2
      by_cases n1 : x = ⟨#[116, 114, 117, 101]⟩
      · rw [if_pos n1] at h1 h2; exact add_sim X q h1 h2
      · rw [if_neg n1] at h1 h2
        by_cases n2 : x = ⟨#[102, 97, 108, 115, 101]⟩
        · rw [if_pos n2] at h1 h2; exact add_sim X q h1 h2
        · rw [if_neg n2] at h1 h2
          simp only [Option.bind_eq_some_iff, Prod.exists] at h1 h2
          obtain ⟨o, S1, a1, h1⟩ := h1
          obtain ⟨o', U1, b1, h2⟩ := h2
          have q1 := open_to X.G h a1
          have s1 := open_to X.G' h' b1
          have g1 : S1.f = 0 := by
            cases o with
            | true =>
              rw [if_pos rfl] at h1
              simp only [Option.bind_eq_some_iff, Prod.exists] at h1
              obtain ⟨l, S2, a2, h1⟩ := h1
              have p2 := ev_post X.G _ _ _ _ _ (q1.2 rfl).2.1.ok a2
              exact p2.zero ((add_to X.G p2.ok h1).1.zero h0)
            | false =>
              rw [if_neg (by decide)] at h1
              obtain rfl := q1.1 rfl
              simp only [Option.bind_eq_some_iff, Prod.exists] at h1
              obtain ⟨S2, a2, y, S3, a3, h1⟩ := h1
              have p2 := need_to X.G h a2
              have p3 := (name_to X.G p2.ok a3).1
              split at h1
              · exact p2.zero (p3.zero ((add_to X.G p3.ok h1).1.zero h0))
              · cases h1
          have g2 : U1.f ≠ 6 ∨ q = 0 := by
            cases o' with
            | true =>
              rw [if_pos rfl] at h2
              simp only [Option.bind_eq_some_iff, Prod.exists] at h2
              obtain ⟨l, U2, b2, h2⟩ := h2
              have r2 := ev_post X.G' _ _ _ _ _ (s1.2 rfl).2.1.ok b2
              exact r2.six ((add_to X.G' r2.ok h2).1.six h6)
            | false =>
              obtain rfl := s1.1 rfl
              rw [if_neg (by decide)] at h2
              simp only [Option.bind_eq_some_iff, Prod.exists] at h2
              obtain ⟨U2, b2, y, U3, b3, h2⟩ := h2
              have r2 := need_to X.G' h' b2
              have r3 := (name_to X.G' r2.ok b3).1
              split at h2
              · exact r2.six (r3.six ((add_to X.G' r3.ok h2).1.six h6))
              · cases h2
          obtain ⟨rfl, rfl⟩ := open_sim X q h ⟨by decide, by decide, by decide⟩ a1 g1 b1 g2
          cases o' with
          | true =>
            rw [if_pos rfl] at h1 h2
            simp only [Option.bind_eq_some_iff, Prod.exists] at h1 h2
            obtain ⟨l, S2, a2, h1⟩ := h1
            obtain ⟨l', U2, b2, h2⟩ := h2
            have p1 := (q1.2 rfl).2.1
            have r1 := (s1.2 rfl).2.1
            have p2 := ev_post X.G _ _ _ _ _ p1.ok a2
            have r2 := ev_post X.G' _ _ _ _ _ r1.ok b2
            obtain ⟨rfl, rfl⟩ := ih _ _ _ _ _ _ p1.ok r1.ok (by show (⟨#[41]⟩ : ByteArray) ≠ ⟨#[]⟩; decide) a2 ((add_to X.G p2.ok h1).1.zero h0) b2 ((add_to X.G' r2.ok h2).1.six h6)
            exact add_sim X q h1 h2
          | false =>
            rw [if_neg (by decide)] at h1 h2
            obtain rfl := q1.1 rfl
            simp only [Option.bind_eq_some_iff, Prod.exists] at h1 h2
            obtain ⟨S2, a2, y, S3, a3, h1⟩ := h1
            obtain ⟨U2, b2, y', U3, b3, h2⟩ := h2
            have p2 := need_to X.G h a2
            have p3 := (name_to X.G p2.ok a3).1
            split at h1
            · split at h2
              · have z3 := (add_to X.G p3.ok h1).1.zero h0
                have z2 := p3.zero z3
                obtain rfl := need_sim X q h (by decide) a2 z2 b2
                obtain ⟨rfl, rfl⟩ := name_sim X q p2.ok a3 z3 b3
                exact add_sim X q h1 h2
              · cases h2
            · cases h1
    | list e =>
      have hc : e ≠ ⟨#[]⟩ := hc
      have he : S.at_ + 1 < T.length := by
        have hl := h.lt
        by_cases he : S.at_ + 1 < T.length
        · exact he
        · exfalso
          have hend : S.at_ + 1 = T.length := by omega
          obtain ⟨t, htt⟩ := tok_ex X.G h
          obtain ⟨-, t1⟩ := X.G.end_text htt hend
          rw [ev, htt] at h1
          simp only [Option.bind_some] at h1
          rw [if_neg (by rw [t1]; exact fun e => hc e.symm)] at h1
          simp only [Option.bind_eq_some_iff, Prod.exists] at h1
          obtain ⟨v, S1, a1, h1⟩ := h1
          have p1 := ev_post X.G _ _ _ _ _ h (one_eq a1)
          have p2 := ev_post X.G _ _ _ _ _ p1.ok h1
          exact end_fail X.G N .expr S _ S1 h hend (.inl rfl) (one_eq a1) (p2.zero h0)
      have ht : T'[(shS p q S).at_]? = T[S.at_]? := X.tok _ he
      rw [ev] at h1 h2
      rw [ht] at h2
      obtain ⟨t, htt⟩ := tok_ex X.G h
      rw [htt] at h1 h2
      simp only [Option.bind_some] at h1 h2
      by_cases hx : t.text = e
      · rw [if_pos hx] at h1 h2
        simp only [Option.bind_eq_some_iff] at h1 h2
        obtain ⟨S1, a1, h1⟩ := h1
        obtain ⟨U1, b1, h2⟩ := h2
        cases h1; cases h2
        exact ⟨rfl, close_sim X q h hc a1 h0 b1⟩
      · rw [if_neg hx] at h1 h2
        simp only [Option.bind_eq_some_iff, Prod.exists] at h1 h2
        obtain ⟨v, S1, a1, h1⟩ := h1
        obtain ⟨v', U1, b1, h2⟩ := h2
        have p1 := ev_post X.G _ _ _ _ _ h (one_eq a1)
        have p2 := ev_post X.G _ _ _ _ _ p1.ok h1
        have r1 := ev_post X.G' _ _ _ _ _ h' (one_eq b1)
        have r2 := ev_post X.G' _ _ _ _ _ r1.ok h2
        obtain ⟨rfl, rfl⟩ := ih1 _ _ _ _ _ _ h h' (by trivial) a1 (p2.zero h0) b1 (r2.six h6)
        exact ih _ _ _ _ _ _ p1.ok r1.ok (by exact hc) h1 h0 h2 h6
    | lloop l e =>
      have hc : e ≠ ⟨#[]⟩ := hc
      rw [ev] at h1 h2
      simp only [Option.bind_eq_some_iff, Prod.exists] at h1 h2
      obtain ⟨o, S1, a1, h1⟩ := h1
      obtain ⟨o', U1, b1, h2⟩ := h2
      have q1 := take_to X.G h a1
      have s1 := take_to X.G' h' b1
      rcases take_sim X q h (by decide) a1 b1 with ⟨rfl, rfl, -⟩ | ⟨-, -, k | k⟩
      · cases o' with
        | true =>
          rw [if_pos rfl] at h1 h2
          simp only [Option.bind_eq_some_iff, Prod.exists] at h1 h2
          obtain ⟨v, S2, a2, h1⟩ := h1
          obtain ⟨v', U2, b2, h2⟩ := h2
          have p1 := (q1.2 rfl).2.2
          have r1 := (s1.2 rfl).2.2
          have p2 := ev_post X.G _ _ _ _ _ p1.ok (one_eq a2)
          have r2 := ev_post X.G' _ _ _ _ _ r1.ok (one_eq b2)
          by_cases hlen : l.length ≤ 100000
          · rw [if_pos hlen] at h1 h2
            have p3 := ev_post X.G _ _ _ _ _ p2.ok h1
            have r3 := ev_post X.G' _ _ _ _ _ r2.ok h2
            obtain ⟨rfl, rfl⟩ := ih1 _ _ _ _ _ _ p1.ok r1.ok (by trivial) a2 (p3.zero h0) b2 (r3.six h6)
            exact ih _ _ _ _ _ _ p2.ok r2.ok (by exact hc) h1 h0 h2 h6
          · rw [if_neg hlen] at h1
            cases h1
        | false =>
          rw [if_neg (by decide)] at h1 h2
          obtain rfl := q1.1 rfl
          simp only [Option.bind_eq_some_iff] at h1 h2
          obtain ⟨S2, a2, h1⟩ := h1
          obtain ⟨U2, b2, h2⟩ := h2
          cases h1; cases h2
          exact ⟨rfl, close_sim X q h hc a2 h0 b2⟩
      · exact absurd k (by decide)
      · exact absurd k (by decide)
end
end Go.Proofs.YtkbbhgipajhbnaaDoor
