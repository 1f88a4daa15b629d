/- An expression within other tokens comes to the same as alone. -/
import Derived.Test.YtkbbhgipajhbnaaDoorParTb
namespace Go.Proofs.YtkbbhgipajhbnaaDoor
open Go.RowKit
set_option linter.unusedVariables false
set_option linter.unusedSimpArgs false
/-- T without its end lies in T' from p on; behind it stands a sign that closes. -/
structure Sim (T T' : List TokL) (p : Nat) : Prop where
  G : GoodT T
  G' : GoodT T'
  tok : ∀ i, i + 1 < T.length → T'[i + p]? = T[i]?
  next : ∃ c, T'[T.length - 1 + p]? = some c ∧ c.kind = 4 ∧ (c.text = ⟨#[41]⟩ ∨ c.text = ⟨#[125]⟩)
def shS (p : Nat) (q : Int) (S : PS) : PS := ⟨S.at_ + p, S.f, S.ns, S.d + q⟩
theorem To.zero {T : List TokL} {a b : Int} {S S' : PS} (h : To T a b S S') (h0 : S'.f = 0) : S.f = 0 := by
  by_cases hf : S.f = 0
  · exact hf
  · rw [h.keep hf] at h0; exact h0
theorem To.six {T : List TokL} {a b q : Int} {S S' : PS} (h : To T a b S S') (h6 : S'.f ≠ 6 ∨ q = 0) : S.f ≠ 6 ∨ q = 0 := by
  rcases h6 with h6 | h6
  · refine .inl fun e => h6 ?_
    rw [h.keep (by rw [e]; decide), e]
  · exact .inr h6
theorem end_fail {T : List TokL} (G : GoodT T) : ∀ N c S ks S', OkS T S → S.at_ + 1 = T.length → (c = .expr ∨ (∃ r, c = .bin r) ∨ c = .un ∨ c = .post ∨ c = .prim) → ev T N c S = some (ks, S') → S'.f ≠ 0 := by
  intro N
  induction N with
  | zero => intro c S ks S' _ _ _ hs; cases c <;> cases hs
  | succ N ih =>
    intro c S ks S' h he hc hs
    obtain ⟨t, ht⟩ := tok_ex G h
    obtain ⟨t0, t1⟩ := G.end_text ht he
    have no : ∀ sg : ByteArray, sg ≠ ⟨#[]⟩ → openS T sg S = some (false, S) := fun sg hsg => by
      unfold openS takeS
      rw [ht]
      simp only
      rw [if_neg (by rw [t1]; exact fun e => hsg e.symm)]
    rcases hc with rfl | ⟨r, rfl⟩ | rfl | rfl | rfl
    · rw [ev] at hs
      simp only [Option.bind_eq_some_iff, Prod.exists] at hs
      obtain ⟨v, S1, h1, o, S2, h2, hs⟩ := hs
      have hf := ih _ _ _ _ h he (.inr (.inl ⟨1, rfl⟩)) (one_eq h1)
      have a1 := ev_post G _ _ _ _ _ h (one_eq h1)
      cases o with
      | false =>
        rw [if_neg (by decide)] at hs
        cases hs
        rw [(open_to G a1.ok h2).1 rfl]; exact hf
      | true => exact absurd ((open_to G a1.ok h2).2 rfl).1 hf
    · rw [ev] at hs
      split at hs
      · exact ih _ _ _ _ h he (.inr (.inr (.inl rfl))) hs
      · simp only [Option.bind_eq_some_iff, Prod.exists] at hs
        obtain ⟨l, S1, h1, hs⟩ := hs
        have hf := ih _ _ _ _ h he (.inr (.inl ⟨_, rfl⟩)) (one_eq h1)
        have a1 := ev_post G _ _ _ _ _ h (one_eq h1)
        have a2 := ev_post G _ _ _ _ _ a1.ok hs
        exact fun h0 => hf (a2.zero h0)
    · rw [ev, no _ (by decide)] at hs
      simp only [Option.bind_some] at hs
      rw [if_neg (by decide), no _ (by decide)] at hs
      simp only [Option.bind_some] at hs
      rw [if_neg (by decide)] at hs
      exact ih _ _ _ _ h he (.inr (.inr (.inr (.inl rfl)))) hs
    · rw [ev] at hs
      simp only [Option.bind_eq_some_iff, Prod.exists] at hs
      obtain ⟨l, S1, h1, hs⟩ := hs
      have hf := ih _ _ _ _ h he (.inr (.inr (.inr (.inr rfl)))) (one_eq h1)
      have a1 := ev_post G _ _ _ _ _ h (one_eq h1)
      have a2 := ev_post G _ _ _ _ _ a1.ok hs
      exact fun h0 => hf (a2.zero h0)
    · rw [ev, ht] at hs
      simp only [Option.bind_some] at hs
      rw [if_neg (by rw [t0]; decide), if_neg (by rw [t0]; decide), if_neg (by rw [t0]; decide), no _ (by decide)] at hs
      simp only [Option.bind_some] at hs
      rw [if_neg (by decide), no _ (by decide)] at hs
      simp only [Option.bind_some] at hs
      rw [if_neg (by decide)] at hs
      cases hs
      exact fail_f G 5 (by decide)
section
variable {T T' : List TokL} {p : Nat} (X : Sim T T' p) (q : Int)
include X
theorem at_sim {S : PS} (h : OkS T S) : (S.at_ + 1 < T.length ∧ T'[S.at_ + p]? = T[S.at_]?) ∨ (S.at_ + 1 = T.length ∧ ∃ c, T'[S.at_ + p]? = some c ∧ c.kind = 4 ∧ (c.text = ⟨#[41]⟩ ∨ c.text = ⟨#[125]⟩)) := by
  have hl := h.lt
  by_cases he : S.at_ + 1 < T.length
  · exact .inl ⟨he, X.tok _ he⟩
  · obtain ⟨c, h1, h2⟩ := X.next
    have : S.at_ = T.length - 1 := by omega
    exact .inr ⟨by omega, c, by rw [this]; exact h1, h2⟩
theorem take_sim {S S1 S1' : PS} {sg : ByteArray} {o o' : Bool} (h : OkS T S) (hsg : sg ≠ ⟨#[]⟩) (h1 : takeS T sg S = some (o, S1)) (h2 : takeS T' sg (shS p q S) = some (o', S1')) :
    (o' = o ∧ S1' = shS p q S1 ∧ (o = true → S.at_ + 1 < T.length)) ∨ (o = false ∧ o' = true ∧ (sg = ⟨#[41]⟩ ∨ sg = ⟨#[125]⟩)) := by
  have hl := h.lt
  unfold takeS at h1 h2
  have h2 : (match T'[S.at_ + p]? with
    | none => none
    | some t => if t.text = sg then (if S.at_ + p + 1 < T'.length then some (true, (⟨S.at_ + p + 1, S.f, S.ns, S.d + q⟩ : PS)) else none) else some (false, shS p q S)) = some (o', S1') := h2
  rcases at_sim X h with ⟨he, ht⟩ | ⟨he, c, ht, -, hc⟩
  · obtain ⟨t, htt⟩ := tok_ex X.G h
    rw [htt] at h1
    rw [ht, htt] at h2
    simp only at h1 h2
    by_cases hx : t.text = sg
    · rw [if_pos hx] at h1 h2
      rw [if_pos he] at h1
      split at h2
      · cases h1; cases h2
        exact .inl ⟨rfl, by show (⟨S.at_ + p + 1, S.f, S.ns, S.d + q⟩ : PS) = ⟨S.at_ + 1 + p, S.f, S.ns, S.d + q⟩; rw [show S.at_ + p + 1 = S.at_ + 1 + p by omega], fun _ => he⟩
      · cases h2
    · rw [if_neg hx] at h1 h2
      cases h1; cases h2
      exact .inl ⟨rfl, rfl, fun e => by cases e⟩
  · obtain ⟨t, htt⟩ := tok_ex X.G h
    obtain ⟨-, t1⟩ := X.G.end_text htt he
    rw [htt] at h1
    rw [ht] at h2
    simp only at h1 h2
    rw [if_neg (by rw [t1]; exact fun e => hsg e.symm)] at h1
    cases h1
    by_cases hx : c.text = sg
    · rw [if_pos hx] at h2
      split at h2
      · cases h2
        exact .inr ⟨rfl, rfl, by rw [← hx]; exact hc⟩
      · cases h2
    · rw [if_neg hx] at h2
      cases h2
      exact .inl ⟨rfl, rfl, fun e => by cases e⟩
theorem need_sim {S S1 S1' : PS} {sg : ByteArray} (h : OkS T S) (hsg : sg ≠ ⟨#[]⟩) (h1 : needS T sg S = some S1) (h0 : S1.f = 0) (h2 : needS T' sg (shS p q S) = some S1') : S1' = shS p q S1 := by
  unfold needS at h1 h2
  cases ht : takeS T sg S with
  | none => rw [ht] at h1; cases h1
  | some r =>
    obtain ⟨o, U⟩ := r
    rw [ht] at h1
    cases o with
    | false =>
      cases h1
      exact absurd h0 (fail_f X.G 5 (by decide))
    | true =>
      cases h1
      cases ht' : takeS T' sg (shS p q S) with
      | none => rw [ht'] at h2; cases h2
      | some r' =>
        obtain ⟨o', U'⟩ := r'
        rcases take_sim X q h hsg ht ht' with ⟨rfl, rfl, -⟩ | ⟨e, -⟩
        · rw [ht'] at h2
          cases h2; rfl
        · cases e
theorem name_sim {S S1 S1' : PS} {x x' : ByteArray} (h : OkS T S) (h1 : nameS T S = some (x, S1)) (h0 : S1.f = 0) (h2 : nameS T' (shS p q S) = some (x', S1')) : x' = x ∧ S1' = shS p q S1 := by
  unfold nameS at h1 h2
  obtain ⟨t, ht⟩ := tok_ex X.G h
  rw [ht] at h1
  simp only at h1
  by_cases hk : t.kind = 3
  · rw [if_pos hk] at h1
    split at h1
    · rename_i hl
      cases h1
      have h2 : (match T'[S.at_ + p]? with
        | none => none
        | some t => if t.kind = 3 then (if S.at_ + p + 1 < T'.length then some (t.text, (⟨S.at_ + p + 1, S.f, S.ns, S.d + q⟩ : PS)) else none) else some (⟨#[]⟩, failS T' 5 (shS p q S))) = some (x', S1') := h2
      rw [X.tok _ hl, ht] at h2
      simp only at h2
      rw [if_pos hk] at h2
      split at h2
      · cases h2
        exact ⟨rfl, by show (⟨S.at_ + p + 1, S.f, S.ns, S.d + q⟩ : PS) = ⟨S.at_ + 1 + p, S.f, S.ns, S.d + q⟩; rw [show S.at_ + p + 1 = S.at_ + 1 + p by omega]⟩
      · cases h2
    · cases h1
  · rw [if_neg hk] at h1
    cases h1
    exact absurd h0 (fail_f X.G 5 (by decide))
theorem open_sim {S S1 S1' : PS} {sg : ByteArray} {o o' : Bool} (h : OkS T S) (hsg : sg ≠ ⟨#[]⟩ ∧ sg ≠ ⟨#[41]⟩ ∧ sg ≠ ⟨#[125]⟩) (h1 : openS T sg S = some (o, S1)) (h0 : S1.f = 0) (h2 : openS T' sg (shS p q S) = some (o', S1')) (h6 : S1'.f ≠ 6 ∨ q = 0) :
    o' = o ∧ S1' = shS p q S1 := by
  unfold openS at h1 h2
  cases ht : takeS T sg S with
  | none => rw [ht] at h1; cases h1
  | some r =>
    obtain ⟨b, U⟩ := r
    cases ht' : takeS T' sg (shS p q S) with
    | none => rw [ht'] at h2; cases h2
    | some r' =>
      obtain ⟨b', U'⟩ := r'
      rcases take_sim X q h hsg.1 ht ht' with ⟨rfl, rfl, -⟩ | ⟨-, -, e⟩
      · rw [ht] at h1
        rw [ht'] at h2
        cases b' with
        | false => cases h1; cases h2; exact ⟨rfl, rfl⟩
        | true =>
          simp only at h1 h2
          split at h1
          · split at h2
            · cases h1; cases h2
              obtain ⟨hf, hU, -⟩ := (take_to X.G h ht).2 rfl
              have hUf : U.f = 0 := by rw [hU]; exact hf
              refine ⟨rfl, ?_⟩
              by_cases hd : U.d + 1 > 64
              · rw [if_pos hd] at h0
                have h0 : (if U.f = 0 then (6 : Int) else U.f) = 0 := h0
                rw [if_pos hUf] at h0
                cases h0
              · rw [if_neg hd]
                by_cases hd' : (shS p q U).d + 1 > 64
                · rw [if_pos hd'] at h6
                  have h6 : (if U.f = 0 then (6 : Int) else U.f) ≠ 6 ∨ q = 0 := h6
                  rw [if_pos hUf] at h6
                  rcases h6 with h6 | h6
                  · exact absurd rfl h6
                  · have hd' : U.d + q + 1 > 64 := hd'
                    omega
                · rw [if_neg hd']
                  show (⟨_, _, _, _⟩ : PS) = ⟨_, _, _, _⟩
                  congr 1
                  show U.d + q + 1 = U.d + 1 + q
                  omega
            · cases h2
          · cases h1
      · rcases e with e | e
        · exact absurd e hsg.2.1
        · exact absurd e hsg.2.2
theorem down_sim {S S1 S1' : PS} (h1 : downS S = some S1) (h2 : downS (shS p q S) = some S1') : S1' = shS p q S1 := by
  have hX := X.G.pos
  unfold downS at h1 h2
  split at h1
  · split at h2
    · cases h1; cases h2
      show (⟨_, _, _, _⟩ : PS) = ⟨_, _, _, _⟩
      congr 1
      show S.d + q - 1 = S.d - 1 + q
      omega
    · cases h2
  · cases h1
theorem close_sim {S S1 S1' : PS} {sg : ByteArray} (h : OkS T S) (hsg : sg ≠ ⟨#[]⟩) (h1 : closeS T sg S = some S1) (h0 : S1.f = 0) (h2 : closeS T' sg (shS p q S) = some S1') : S1' = shS p q S1 := by
  unfold closeS at h1 h2
  cases ht : needS T sg S with
  | none => rw [ht] at h1; cases h1
  | some U =>
    cases ht' : needS T' sg (shS p q S) with
    | none => rw [ht'] at h2; cases h2
    | some U' =>
      rw [ht] at h1
      rw [ht'] at h2
      simp only at h1 h2
      have a := need_to X.G h ht
      have b := down_to X.G a.ok h1
      obtain rfl := need_sim X q h hsg ht (b.zero h0) ht'
      exact down_sim X q h1 h2
theorem add_sim {S S1 S1' : PS} {n : NodeL} {ks kt : List Int} (h1 : addE n S = some (ks, S1)) (h2 : addE n (shS p q S) = some (kt, S1')) : kt = ks ∧ S1' = shS p q S1 := by
  have hX := X.G.pos
  unfold addE at h1 h2
  split at h1
  · split at h2
    · cases h1; cases h2; exact ⟨rfl, rfl⟩
    · cases h2
  · cases h1
theorem step_sim {S S1 S1' : PS} (h1 : stepS T S = some S1) (h2 : stepS T' (shS p q S) = some S1') : S1' = shS p q S1 ∧ T'[S.at_ + p]? = T[S.at_]? := by
  unfold stepS at h1 h2
  split at h1
  · rename_i hl
    split at h2
    · cases h1; cases h2
      exact ⟨by show (⟨S.at_ + p + 1, S.f, S.ns, S.d + q⟩ : PS) = ⟨S.at_ + 1 + p, S.f, S.ns, S.d + q⟩; rw [show S.at_ + p + 1 = S.at_ + 1 + p by omega], X.tok _ hl⟩
    · cases h2
  · cases h1
end
end Go.Proofs.YtkbbhgipajhbnaaDoor
