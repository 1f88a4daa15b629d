/- The law of brackets: brackets around an expression; an expression as an attribute. -/
import Derived.Test.YtkbbhgipajhbnaaDoorParBb
import Derived.Test.YtkbbhgipajhbnaaDoorParTd
import Derived.Test.YtkbbhgipajhbnaaDoorLexBr
namespace Go.Proofs.YtkbbhgipajhbnaaDoor
open Go.RowKit
set_option linter.unusedVariables false
set_option linter.unusedSimpArgs false
def sgT (x : ByteArray) : TokL := ⟨4, x, 0, [], 0⟩
def nmT (x : ByteArray) : TokL := ⟨3, x, 0, [], 0⟩
def laT : TokL := ⟨0, ⟨#[]⟩, 0, [], 0⟩
def Cl3 (t : TokL) : Prop := t.text = ⟨#[41]⟩ ∨ t.text = ⟨#[125]⟩ ∨ t.text = ⟨#[]⟩
def OkTok (t : TokL) : Prop := t.text.size ≤ 10000 ∧ (∀ p ∈ t.parts, p.2.size ≤ 10000) ∧ t.parts.length ≤ 9000
theorem good_of {L : List TokL} (h : ∀ t ∈ L, OkTok t) (hl : L.length < 20000) : GoodT (L ++ [laT]) := by
  refine ⟨by simp, by simp; omega, ⟨laT, by simp, rfl, rfl⟩, fun t ht => ?_, fun t ht => ?_, fun t ht => ?_⟩
  · rcases List.mem_append.1 ht with ht | ht
    · exact (h t ht).1
    · simp at ht; subst ht; exact Nat.zero_le _
  · rcases List.mem_append.1 ht with ht | ht
    · exact (h t ht).2.1
    · simp at ht; subst ht; intro p hp; cases hp
  · rcases List.mem_append.1 ht with ht | ht
    · exact (h t ht).2.2
    · simp at ht; subst ht; exact Nat.zero_le _
theorem sg_ok (x : ByteArray) (h : x.size ≤ 100) : OkTok (sgT x) := ⟨by show x.size ≤ _; omega, (fun p hp => by cases hp), Nat.zero_le _⟩
theorem nm_ok (x : ByteArray) (h : x.size ≤ 100) : OkTok (nmT x) := ⟨by show x.size ≤ _; omega, (fun p hp => by cases hp), Nat.zero_le _⟩
section
variable {T : List TokL} (G : GoodT T)
include G
def Via (T : List TokL) (l : Int) (S1 : PS) (ks : List Int) (Sf : PS) : Prop := (∀ t, T[S1.at_]? = some t → Cl3 t → ks = [l] ∧ Sf = S1) ∧ (S1.f = 6 → Sf.f = 6)
theorem Via.trans {l l2 : Int} {S1 S2 Sf : PS} {ks : List Int} (h : Via T l S1 [l2] S2) (k : Via T l2 S2 ks Sf) : Via T l S1 ks Sf := by
  have hG := G.pos
  refine ⟨fun t ht hc => ?_, fun h6 => k.2 (h.2 h6)⟩
  obtain ⟨e1, e2⟩ := h.1 t ht hc
  simp at e1
  subst e1; subst e2
  exact k.1 t ht hc
theorem six_of {dd k : Int} {S S' : PS} (h : To T dd k S S') (h6 : S.f = 6) : S'.f = 6 := by
  have hG := G.pos
  rw [h.keep (by rw [h6]; decide), h6]
theorem cl3_op {t : TokL} (h : Cl3 t) (r : Int) : opOf t.text r = 0 := by
  rcases h with h | h | h
  · exact op_close _ (.inl h) r
  · exact op_close _ (.inr h) r
  · rw [h, op_end G]
theorem cl3_open {t : TokL} {S : PS} (ht : T[S.at_]? = some t) (h : Cl3 t) {sg : ByteArray} (h1 : sg ≠ ⟨#[41]⟩) (h2 : sg ≠ ⟨#[125]⟩) (h3 : sg ≠ ⟨#[]⟩) : openS T sg S = some (false, S) := by
  have hG := G.pos
  have hn : t.text ≠ sg := by
    rcases h with h | h | h
    · rw [h]; exact h1.symm
    · rw [h]; exact h2.symm
    · rw [h]; exact h3.symm
  unfold openS takeS
  rw [ht]
  simp only [if_neg hn]
theorem loop_via {n : Nat} {r l : Int} {S1 Sf : PS} {ks : List Int} (h : OkS T S1) (hs : ev T n (.loop r l) S1 = some (ks, Sf)) : Via T l S1 ks Sf := by
  refine ⟨fun t ht hc => ?_, six_of G (ev_post G _ _ _ _ _ h hs)⟩
  cases n with
  | zero => cases hs
  | succ n =>
    rw [ev, ht] at hs
    simp only [Option.bind_some] at hs
    rw [if_pos (cl3_op G hc r)] at hs
    cases hs; exact ⟨rfl, rfl⟩
theorem ploop_via {n : Nat} {l : Int} {S1 Sf : PS} {ks : List Int} (h : OkS T S1) (hs : ev T n (.ploop l) S1 = some (ks, Sf)) : Via T l S1 ks Sf := by
  refine ⟨fun t ht hc => ?_, six_of G (ev_post G _ _ _ _ _ h hs)⟩
  cases n with
  | zero => cases hs
  | succ n =>
    rw [ev, cl3_open G ht hc (by decide) (by decide) (by decide)] at hs
    simp only [Option.bind_some] at hs
    rw [if_neg (by decide)] at hs
    cases hs; exact ⟨rfl, rfl⟩
theorem bin_via {n : Nat} {r : Int} (hr : r ≠ 6) {S Sf : PS} {ks : List Int} (h : OkS T S) (hs : ev T (n + 1) (.bin r) S = some (ks, Sf)) :
    ∃ l S1, ev T n (.bin (r + 1)) S = some ([l], S1) ∧ Via T l S1 ks Sf := by
  rw [ev, if_neg hr] at hs
  simp only [Option.bind_eq_some_iff, Prod.exists] at hs
  obtain ⟨l, S1, h1, hs⟩ := hs
  exact ⟨l, S1, one_eq h1, loop_via G (ev_post G _ _ _ _ _ h (one_eq h1)).ok hs⟩
/-- Where a bracket stands: what is within, and its end. -/
theorem bracket_inv {M : Nat} {S Sf : PS} {ks : List Int} (h : OkS T S) (ht : T[S.at_]? = some (sgT ⟨#[40]⟩)) (hs : ev T (M + 10) .expr S = some (ks, Sf)) :
    ∃ v So Si Sc, openS T ⟨#[40]⟩ S = some (true, So) ∧ ev T M .expr So = some ([v], Si) ∧ closeS T ⟨#[41]⟩ Si = some Sc ∧ Via T v Sc ks Sf := by
  rw [ev] at hs
  simp only [Option.bind_eq_some_iff, Prod.exists] at hs
  obtain ⟨t1, S1, h1, o, S2, h2, hs⟩ := hs
  have p1 := ev_post G _ _ _ _ _ h (one_eq h1)
  have v1 : Via T t1 S1 ks Sf := by
    refine ⟨fun t ht hc => ?_, fun h6 => ?_⟩
    · rw [cl3_open G ht hc (by decide) (by decide) (by decide)] at h2
      cases h2
      rw [if_neg (by decide)] at hs
      cases hs; exact ⟨rfl, rfl⟩
    · have q2 := open_to G p1.ok h2
      cases o with
      | false =>
        rw [if_neg (by decide)] at hs
        cases hs
        rw [q2.1 rfl]; exact h6
      | true => rw [(q2.2 rfl).1] at h6; cases h6
  obtain ⟨l1, U1, e1, w1⟩ := bin_via G (by decide) h (one_eq h1)
  obtain ⟨l2, U2, e2, w2⟩ := bin_via G (by decide) h e1
  obtain ⟨l3, U3, e3, w3⟩ := bin_via G (by decide) h e2
  obtain ⟨l4, U4, e4, w4⟩ := bin_via G (by decide) h e3
  obtain ⟨l5, U5, e5, w5⟩ := bin_via G (by decide) h e4
  rw [ev, if_pos (by decide)] at e5
  have no : ∀ sg : ByteArray, sg ≠ ⟨#[40]⟩ → openS T sg S = some (false, S) := fun sg hsg => by
    unfold openS takeS
    rw [ht]
    simp only
    rw [if_neg (show ¬ (sgT ⟨#[40]⟩).text = sg from fun e => hsg e.symm)]
  rw [ev, no _ (by decide)] at e5
  simp only [Option.bind_some] at e5
  rw [if_neg (by decide), no _ (by decide)] at e5
  simp only [Option.bind_some] at e5
  rw [if_neg (by decide), ev] at e5
  simp only [Option.bind_eq_some_iff, Prod.exists] at e5
  obtain ⟨lp, Sp, hp, e5⟩ := e5
  have w6 := ploop_via G (ev_post G _ _ _ _ _ h (one_eq hp)).ok e5
  have hp := one_eq hp
  rw [ev, ht] at hp
  simp only [Option.bind_some] at hp
  rw [if_neg (show ¬ (sgT ⟨#[40]⟩).kind = 1 by decide), if_neg (show ¬ (sgT ⟨#[40]⟩).kind = 2 by decide), if_neg (show ¬ (sgT ⟨#[40]⟩).kind = 3 by decide), no _ (by decide)] at hp
  simp only [Option.bind_some] at hp
  rw [if_neg (by decide)] at hp
  simp only [Option.bind_eq_some_iff, Prod.exists] at hp
  obtain ⟨p, So, hop, hp⟩ := hp
  cases p with
  | false =>
    unfold openS takeS at hop
    rw [ht] at hop
    simp only at hop
    rw [if_pos (show (sgT ⟨#[40]⟩).text = ⟨#[40]⟩ from rfl)] at hop
    split at hop
    · cases hop
    · rename_i hc; split at hc <;> cases hc
    · rename_i hc
      split at hop
      · cases hop
      · cases hop
  | true =>
    rw [if_pos rfl] at hp
    simp only [Option.bind_eq_some_iff, Prod.exists] at hp
    obtain ⟨v, Si, hi, Sc, hc, hp⟩ := hp
    simp only [Option.some.injEq, Prod.mk.injEq, List.cons.injEq, and_true] at hp
    obtain ⟨rfl, rfl⟩ := hp
    exact ⟨_, So, Si, _, hop, one_eq hi, hc, (((((Via.trans G w6 w5).trans G w4).trans G w3).trans G w2).trans G w1).trans G v1⟩
end
end Go.Proofs.YtkbbhgipajhbnaaDoor
