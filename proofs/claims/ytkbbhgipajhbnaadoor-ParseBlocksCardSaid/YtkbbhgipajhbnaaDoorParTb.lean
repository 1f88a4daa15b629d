/- The reader of expressions always comes to an end. -/
import Derived.Test.YtkbbhgipajhbnaaDoorParTa
namespace Go.Proofs.YtkbbhgipajhbnaaDoor
open Go.RowKit
set_option linter.unusedVariables false
set_option linter.unusedSimpArgs false
def rkC : Cl → Nat
  | .expr => 13
  | .bin r => (12 - r).toNat
  | .loop _ _ => 5
  | .un => 5
  | .ahead _ => 6
  | .post => 4
  | .ploop _ => 3
  | .prim => 3
  | .named _ => 2
  | .list _ => 14
  | .lloop _ _ => 5
def PreC (c : Cl) (S : PS) : Prop :=
  match c with
  | .bin r => 1 ≤ r ∧ r ≤ 6
  | .loop r _ => 1 ≤ r ∧ r ≤ 5
  | .ahead _ => 1 ≤ S.d
  | .named x => x.size ≤ 10000
  | .list e => e ≠ ⟨#[]⟩ ∧ 1 ≤ S.d ∧ 1 ≤ S.at_
  | .lloop ks e => e ≠ ⟨#[]⟩ ∧ 1 ≤ S.d ∧ ks.length ≤ S.at_
  | _ => True
def isOne : Cl → Bool
  | .list _ => false
  | .lloop _ _ => false
  | _ => true
theorem one_of {ks : List Int} {v : Int} {S : PS} {r : Option (List Int × PS)} (h : r = some (ks, S)) (hk : ks = [v]) : one r = some (v, S) := by
  subst hk; rw [h]; rfl
section
variable {T : List TokL} (G : GoodT T)
include G
theorem tok_ex {S : PS} (h : OkS T S) : ∃ t, T[S.at_]? = some t := by
  have hG := G.pos
  exact ⟨_, List.getElem?_eq_getElem h.lt⟩
theorem not_end {S : PS} {t : TokL} (h : OkS T S) (ht : T[S.at_]? = some t) (hn : t.kind ≠ 0 ∨ t.text ≠ ⟨#[]⟩) : S.at_ + 1 < T.length := by
  have hl := h.lt
  by_cases he : S.at_ + 1 = T.length
  · obtain ⟨h1, h2⟩ := G.end_text ht he
    rcases hn with hn | hn
    · exact absurd h1 hn
    · exact absurd h2 hn
  · omega
theorem take_ex {S : PS} {sg : ByteArray} (h : OkS T S) (hsg : sg ≠ ⟨#[]⟩) : ∃ o S', takeS T sg S = some (o, S') := by
  obtain ⟨t, ht⟩ := tok_ex G h
  unfold takeS
  rw [ht]
  by_cases he : t.text = sg
  · simp only [if_pos he]
    rw [if_pos (not_end G h ht (.inr (by rw [he]; exact hsg)))]
    exact ⟨_, _, rfl⟩
  · simp only [if_neg he]
    exact ⟨_, _, rfl⟩
theorem open_ex {S : PS} {sg : ByteArray} (h : OkS T S) (hsg : sg ≠ ⟨#[]⟩) : ∃ o S', openS T sg S = some (o, S') := by
  obtain ⟨o, S1, h1⟩ := take_ex G h hsg
  unfold openS
  rw [h1]
  cases o with
  | false => exact ⟨_, _, rfl⟩
  | true =>
    obtain ⟨-, rfl, -⟩ := (take_to G h h1).2 rfl
    have := h.d0
    have := h.d1
    simp only
    rw [if_pos ⟨h.d0, by omega⟩]
    exact ⟨_, _, rfl⟩
theorem need_ex {S : PS} {sg : ByteArray} (h : OkS T S) (hsg : sg ≠ ⟨#[]⟩) : ∃ S', needS T sg S = some S' := by
  obtain ⟨o, S1, h1⟩ := take_ex G h hsg
  unfold needS
  rw [h1]
  cases o <;> exact ⟨_, rfl⟩
theorem name_ex {S : PS} (h : OkS T S) : ∃ x S', nameS T S = some (x, S') := by
  obtain ⟨t, ht⟩ := tok_ex G h
  unfold nameS
  rw [ht]
  by_cases he : t.kind = 3
  · simp only [if_pos he]
    rw [if_pos (not_end G h ht (.inl (by rw [he]; decide)))]
    exact ⟨_, _, rfl⟩
  · simp only [if_neg he]
    exact ⟨_, _, rfl⟩
theorem down_ex {S : PS} (h : OkS T S) (hd : 1 ≤ S.d) : ∃ S', downS S = some S' := by
  have hG := G.pos
  have := h.d1
  unfold downS
  rw [if_pos ⟨by omega, by omega⟩]
  exact ⟨_, rfl⟩
theorem close_ex {S : PS} {sg : ByteArray} (h : OkS T S) (hsg : sg ≠ ⟨#[]⟩) (hd : 1 ≤ S.d) : ∃ S', closeS T sg S = some S' := by
  obtain ⟨S1, h1⟩ := need_ex G h hsg
  have a := need_to G h h1
  unfold closeS
  rw [h1]
  exact down_ex G a.ok (by have := a.d; omega)
theorem step_ex {S : PS} {t : TokL} (h : OkS T S) (ht : T[S.at_]? = some t) (hn : t.kind ≠ 0 ∨ t.text ≠ ⟨#[]⟩) : ∃ S', stepS T S = some S' := by
  unfold stepS
  rw [if_pos (not_end G h ht hn)]
  exact ⟨_, rfl⟩
theorem add_ex {S : PS} (n : NodeL) (h : OkS T S) (hn : (S.ns.length : Int) - S.at_ ≤ 20000) : ∃ v S', addE n S = some ([v], S') := by
  have := h.lt
  have := G.few
  unfold addE
  rw [if_pos (by omega)]
  exact ⟨_, _, rfl⟩
theorem op_end : opOf ⟨#[]⟩ = fun _ => 0 := by
  have hG := G.pos
  funext r
  have h : opKind ⟨#[]⟩ = (0, 0) := by decide +kernel
  unfold opOf
  rw [h]
  simp
theorem ev_total : ∀ N c S, OkS T S → PreC c S → (S.ns.length : Int) - S.at_ + kOf c ≤ 20000 → 20 * (T.length - S.at_) + rkC c ≤ N → ∃ ks S', ev T N c S = some (ks, S') ∧ (isOne c = true → ∃ v, ks = [v]) := by
  intro N
  induction N with
  | zero => intro c S h _ _ hN; have := h.lt; omega
  | succ N ih =>
    intro c S h hp hn hN
    have hlt := h.lt
    have one1 : ∀ c S, isOne c = true → OkS T S → PreC c S → (S.ns.length : Int) - S.at_ + kOf c ≤ 20000 → 20 * (T.length - S.at_) + rkC c ≤ N → ∃ v S', one (ev T N c S) = some (v, S') ∧ To T (dOf c) (kOf c) S S' := by
      intro c S ho h hp hn hN
      obtain ⟨ks, S', h1, h2⟩ := ih c S h hp hn hN
      obtain ⟨v, rfl⟩ := h2 ho
      exact ⟨v, S', one_of h1 rfl, ev_post G _ _ _ _ _ h h1⟩
    cases c with
    | expr =>
      have hN : 20 * (T.length - S.at_) + 13 ≤ N + 1 := hN
      have hn : (S.ns.length : Int) - S.at_ + 0 ≤ 20000 := hn
      obtain ⟨t, S1, h1, a1⟩ := one1 (.bin 1) S rfl h ⟨by decide, by decide⟩ hn (by show _ + 11 ≤ _; omega)
      obtain ⟨o, S2, h2⟩ := open_ex G a1.ok (sg := ⟨#[63]⟩) (by decide)
      rw [ev, h1]
      simp only [Option.bind_some]
      rw [h2]
      simp only [Option.bind_some]
      cases o with
      | false => exact ⟨_, _, rfl, fun _ => ⟨_, rfl⟩⟩
      | true =>
        obtain ⟨-, b2, m2⟩ := (open_to G a1.ok h2).2 rfl
        rw [if_pos rfl]
        have c2 := a1.trans b2
        have := c2.n
        have := a1.at_
        obtain ⟨y, S3, h3, a3⟩ := one1 .expr S2 rfl b2.ok trivial (by show (S2.ns.length : Int) - S2.at_ + 0 ≤ _; simp [kOf] at *; omega) (by show _ + 13 ≤ _; have := b2.ok.lt; omega)
        obtain ⟨S4, h4⟩ := need_ex G a3.ok (sg := ⟨#[58]⟩) (by decide)
        have a4 := need_to G a3.ok h4
        have c4 := (c2.trans a3).trans a4
        have := c4.n
        have := c4.at_
        have := a3.at_
        have := a4.at_
        obtain ⟨z, S5, h5, a5⟩ := one1 .expr S4 rfl a4.ok trivial (by show (S4.ns.length : Int) - S4.at_ + 0 ≤ _; simp [kOf] at *; omega) (by show _ + 13 ≤ _; have := a4.ok.lt; omega)
        have c5 := c4.trans a5
        obtain ⟨S6, h6⟩ := down_ex G a5.ok (by have := b2.d; have := a3.d; have := a4.d; have := a5.d; have := b2.ok.d0; have := a1.ok.d0; simp [dOf] at *; omega)
        have a6 := down_to G a5.ok h6
        have := (c5.trans a6).n
        obtain ⟨v, S7, h7⟩ := add_ex G ⟨10, 0, ⟨#[]⟩, [], [t, y, z]⟩ a6.ok (by simp [kOf] at *; omega)
        rw [h3]
        simp only [Option.bind_some]
        rw [h4]
        simp only [Option.bind_some]
        rw [h5]
        simp only [Option.bind_some]
        rw [h6]
        simp only [Option.bind_some]
        exact ⟨_, _, h7, fun _ => ⟨_, rfl⟩⟩
    | bin r =>
      have hN : 20 * (T.length - S.at_) + (12 - r).toNat ≤ N + 1 := hN
      obtain ⟨r1, r2⟩ : 1 ≤ r ∧ r ≤ 6 := hp
      have hn : (S.ns.length : Int) - S.at_ + 0 ≤ 20000 := hn
      rw [ev]
      by_cases h6 : r = 6
      · rw [if_pos h6]
        obtain ⟨ks, S1, h1, h2⟩ := ih .un S h trivial hn (by show _ + 5 ≤ _; omega)
        exact ⟨ks, S1, h1, fun _ => h2 rfl⟩
      · rw [if_neg h6]
        obtain ⟨l, S1, h1, a1⟩ := one1 (.bin (r + 1)) S rfl h ⟨by omega, by omega⟩ hn (by show _ + (12 - (r + 1)).toNat ≤ _; omega)
        have := a1.n
        have := a1.at_
        obtain ⟨ks, S2, h2, h3⟩ := ih (.loop r l) S1 a1.ok ⟨by omega, by omega⟩ (by show (S1.ns.length : Int) - S1.at_ + 0 ≤ _; simp [kOf] at *; omega) (by show _ + 5 ≤ _; have := a1.ok.lt; omega)
        rw [h1]
        simp only [Option.bind_some]
        exact ⟨ks, S2, h2, fun _ => h3 rfl⟩
    | loop r l =>
      have hN : 20 * (T.length - S.at_) + 5 ≤ N + 1 := hN
      obtain ⟨r1, r2⟩ : 1 ≤ r ∧ r ≤ 5 := hp
      have hn : (S.ns.length : Int) - S.at_ + 0 ≤ 20000 := hn
      obtain ⟨t, ht⟩ := tok_ex G h
      rw [ev, ht]
      simp only [Option.bind_some]
      by_cases hop : opOf t.text r = 0
      · rw [if_pos hop]; exact ⟨_, _, rfl, fun _ => ⟨_, rfl⟩⟩
      · rw [if_neg hop]
        obtain ⟨S1, h1⟩ := step_ex G h ht (.inr (fun e => hop (by rw [e, op_end G])))
        obtain ⟨-, e1, a1⟩ := stepS_to G h h1
        have m1 : S1.at_ = S.at_ + 1 := by rw [e1]
        have := a1.n
        obtain ⟨x, S2, h2, a2⟩ := one1 (.bin (r + 1)) S1 rfl a1.ok ⟨by omega, by omega⟩ (by show (S1.ns.length : Int) - S1.at_ + 0 ≤ _; omega) (by show _ + (12 - (r + 1)).toNat ≤ _; have := a1.ok.lt; omega)
        have := (a1.trans a2).n
        have := a2.at_
        obtain ⟨v, S3, h3⟩ := add_ex G ⟨opOf t.text r, 0, ⟨#[]⟩, [], [l, x]⟩ a2.ok (by simp [kOf] at *; omega)
        have a3 := (add_to G a2.ok h3).1
        have := ((a1.trans a2).trans a3).n
        have := a3.at_
        rw [h1]
        simp only [Option.bind_some]
        rw [h2]
        simp only [Option.bind_some]
        rw [one_of h3 rfl]
        simp only [Option.bind_some]
        by_cases hr3 : r = 3
        · rw [if_pos hr3]; exact ⟨_, _, rfl, fun _ => ⟨_, rfl⟩⟩
        · rw [if_neg hr3]
          obtain ⟨ks, S4, h4, h5⟩ := ih (.loop r v) S3 a3.ok ⟨r1, r2⟩ (by show (S3.ns.length : Int) - S3.at_ + 0 ≤ _; simp [kOf] at *; omega) (by show _ + 5 ≤ _; have := a3.ok.lt; omega)
          exact ⟨ks, S4, h4, fun _ => h5 rfl⟩
    | un =>
      have hN : 20 * (T.length - S.at_) + 5 ≤ N + 1 := hN
      have hn : (S.ns.length : Int) - S.at_ + 0 ≤ 20000 := hn
      obtain ⟨o, S1, h1⟩ := open_ex G h (sg := ⟨#[45]⟩) (by decide)
      rw [ev, h1]
      simp only [Option.bind_some]
      have aheadOk : ∀ S1 k, To T 1 (-1) S S1 → S.at_ + 1 ≤ S1.at_ → ∃ ks S', ev T N (.ahead k) S1 = some (ks, S') ∧ (isOne .un = true → ∃ v, ks = [v]) := fun S1 k b m => by
        have := b.n
        have := b.d
        have := h.d0
        obtain ⟨ks, S4, h4, h5⟩ := ih (.ahead k) S1 b.ok (by show 1 ≤ S1.d; omega) (by show (S1.ns.length : Int) - S1.at_ + 1 ≤ _; omega) (by show _ + 6 ≤ _; have := b.ok.lt; omega)
        exact ⟨ks, S4, h4, fun _ => h5 rfl⟩
      cases o with
      | true =>
        rw [if_pos rfl]
        obtain ⟨-, b, m⟩ := (open_to G h h1).2 rfl
        exact aheadOk _ _ b m
      | false =>
        rw [if_neg (by decide)]
        obtain rfl := (open_to G h h1).1 rfl
        obtain ⟨p, S2, h2⟩ := open_ex G h (sg := ⟨#[33]⟩) (by decide)
        rw [h2]
        simp only [Option.bind_some]
        cases p with
        | true =>
          rw [if_pos rfl]
          obtain ⟨-, b, m⟩ := (open_to G h h2).2 rfl
          exact aheadOk _ _ b m
        | false =>
          rw [if_neg (by decide)]
          obtain rfl := (open_to G h h2).1 rfl
          obtain ⟨ks, S4, h4, h5⟩ := ih .post _ h trivial hn (by show _ + 4 ≤ _; omega)
          exact ⟨ks, S4, h4, fun _ => h5 rfl⟩
    | ahead k =>
      have hN : 20 * (T.length - S.at_) + 6 ≤ N + 1 := hN
      have hp : 1 ≤ S.d := hp
      have hn : (S.ns.length : Int) - S.at_ + 1 ≤ 20000 := hn
      obtain ⟨v, S1, h1, a1⟩ := one1 .un S rfl h trivial (by show (S.ns.length : Int) - S.at_ + 0 ≤ _; omega) (by show _ + 5 ≤ _; omega)
      obtain ⟨S2, h2⟩ := down_ex G a1.ok (by have := a1.d; simp [dOf] at *; omega)
      have a2 := down_to G a1.ok h2
      have := (a1.trans a2).n
      obtain ⟨u, S3, h3⟩ := add_ex G ⟨k, 0, ⟨#[]⟩, [], [v]⟩ a2.ok (by simp [kOf] at *; omega)
      rw [ev, h1]
      simp only [Option.bind_some]
      rw [h2]
      simp only [Option.bind_some]
      exact ⟨_, _, h3, fun _ => ⟨_, rfl⟩⟩
    | post =>
      have hN : 20 * (T.length - S.at_) + 4 ≤ N + 1 := hN
      have hn : (S.ns.length : Int) - S.at_ + 0 ≤ 20000 := hn
      obtain ⟨l, S1, h1, a1⟩ := one1 .prim S rfl h trivial hn (by show _ + 3 ≤ _; omega)
      have := a1.n
      have := a1.at_
      obtain ⟨ks, S4, h4, h5⟩ := ih (.ploop l) S1 a1.ok trivial (by show (S1.ns.length : Int) - S1.at_ + 0 ≤ _; simp [kOf] at *; omega) (by show _ + 3 ≤ _; have := a1.ok.lt; omega)
      rw [ev, h1]
      simp only [Option.bind_some]
      exact ⟨ks, S4, h4, fun _ => h5 rfl⟩
    | ploop l =>
      have hN : 20 * (T.length - S.at_) + 3 ≤ N + 1 := hN
      have hn : (S.ns.length : Int) - S.at_ + 0 ≤ 20000 := hn
      obtain ⟨o, S1, h1⟩ := open_ex G h (sg := ⟨#[91]⟩) (by decide)
      rw [ev, h1]
      simp only [Option.bind_some]
      cases o with
      | false => rw [if_neg (by decide)]; exact ⟨_, _, rfl, fun _ => ⟨_, rfl⟩⟩
      | true =>
        rw [if_pos rfl]
        obtain ⟨-, b, m⟩ := (open_to G h h1).2 rfl
        have := b.n
        obtain ⟨i, S2, h2, a2⟩ := one1 .expr S1 rfl b.ok trivial (by show (S1.ns.length : Int) - S1.at_ + 0 ≤ _; omega) (by show _ + 13 ≤ _; have := b.ok.lt; omega)
        obtain ⟨S3, h3⟩ := close_ex G a2.ok (sg := ⟨#[93]⟩) (by decide) (by have := b.d; have := a2.d; have := h.d0; simp [dOf] at *; omega)
        have a3 := close_to G a2.ok h3
        have c3 := (b.trans a2).trans a3
        have := c3.n
        have := a2.at_
        have := a3.at_
        obtain ⟨v, S4, h4⟩ := add_ex G ⟨7, 0, ⟨#[]⟩, [], [l, i]⟩ a3.ok (by simp [kOf] at *; omega)
        have a4 := (add_to G a3.ok h4).1
        have := (c3.trans a4).n
        have := a4.at_
        obtain ⟨ks, S5, h5, h6⟩ := ih (.ploop v) S4 a4.ok trivial (by show (S4.ns.length : Int) - S4.at_ + 0 ≤ _; simp [kOf] at *; omega) (by show _ + 3 ≤ _; have := a4.ok.lt; omega)
        rw [h2]
        simp only [Option.bind_some]
        rw [h3]
        simp only [Option.bind_some]
        rw [one_of h4 rfl]
        simp only [Option.bind_some]
        exact ⟨ks, S5, h5, fun _ => h6 rfl⟩
    | prim =>
      have hN : 20 * (T.length - S.at_) + 3 ≤ N + 1 := hN
      have hn : (S.ns.length : Int) - S.at_ + 0 ≤ 20000 := hn
      obtain ⟨t, ht⟩ := tok_ex G h
      rw [ev, ht]
      simp only [Option.bind_some]
      have leaf : ∀ n : NodeL, t.kind ≠ 0 → ∃ ks S', ((stepS T S).bind fun S1 => addE n S1) = some (ks, S') ∧ (isOne .prim = true → ∃ v, ks = [v]) := fun n hk => by
        obtain ⟨S1, h1⟩ := step_ex G h ht (.inl hk)
        have a1 := (stepS_to G h h1).2.2
        have := a1.n
        obtain ⟨v, S2, h2⟩ := add_ex G n a1.ok (by omega)
        rw [h1]
        exact ⟨_, _, h2, fun _ => ⟨_, rfl⟩⟩
      by_cases k1 : t.kind = 1
      · rw [if_pos k1]; exact leaf _ (by rw [k1]; decide)
      · rw [if_neg k1]
        by_cases k2 : t.kind = 2
        · rw [if_pos k2]; exact leaf _ (by rw [k2]; decide)
        · rw [if_neg k2]
          by_cases k3 : t.kind = 3
          · rw [if_pos k3]
            obtain ⟨S1, h1⟩ := step_ex G h ht (.inl (by rw [k3]; decide))
            obtain ⟨-, e1, a1⟩ := stepS_to G h h1
            have m1 : S1.at_ = S.at_ + 1 := by rw [e1]
            have := a1.n
            obtain ⟨ks, S5, h5, h6⟩ := ih (.named t.text) S1 a1.ok (G.text t (List.mem_of_getElem? ht)) (by show (S1.ns.length : Int) - S1.at_ + 1 ≤ _; omega) (by show _ + 2 ≤ _; have := a1.ok.lt; omega)
            rw [h1]
            simp only [Option.bind_some]
            exact ⟨ks, S5, h5, fun _ => h6 rfl⟩
          · rw [if_neg k3]
            obtain ⟨o, S1, h1⟩ := open_ex G h (sg := ⟨#[91]⟩) (by decide)
            rw [h1]
            simp only [Option.bind_some]
            cases o with
            | true =>
              rw [if_pos rfl]
              obtain ⟨-, b, m⟩ := (open_to G h h1).2 rfl
              have := b.n
              have := b.d
              have := h.d0
              obtain ⟨ks, S2, h2, -⟩ := ih (.list ⟨#[93]⟩) S1 b.ok ⟨by decide, by omega, by omega⟩ (by show (S1.ns.length : Int) - S1.at_ + 0 ≤ _; omega) (by show _ + 14 ≤ _; have := b.ok.lt; omega)
              have a2 := ev_post G _ _ _ _ _ b.ok h2
              have := (b.trans a2).n
              obtain ⟨v, S3, h3⟩ := add_ex G ⟨6, 0, ⟨#[]⟩, [], ks⟩ a2.ok (by simp [kOf] at *; omega)
              rw [h2]
              simp only [Option.bind_some]
              exact ⟨_, _, h3, fun _ => ⟨_, rfl⟩⟩
            | false =>
              rw [if_neg (by decide)]
              obtain rfl := (open_to G h h1).1 rfl
              obtain ⟨p, S2, h2⟩ := open_ex G h (sg := ⟨#[40]⟩) (by decide)
              rw [h2]
              simp only [Option.bind_some]
              cases p with
              | true =>
                rw [if_pos rfl]
                obtain ⟨-, b, m⟩ := (open_to G h h2).2 rfl
                have := b.n
                obtain ⟨v, S3, h3, a3⟩ := one1 .expr S2 rfl b.ok trivial (by show (S2.ns.length : Int) - S2.at_ + 0 ≤ _; omega) (by show _ + 13 ≤ _; have := b.ok.lt; omega)
                obtain ⟨S4, h4⟩ := close_ex G a3.ok (sg := ⟨#[41]⟩) (by decide) (by have := b.d; have := a3.d; have := h.d0; simp [dOf] at *; omega)
                rw [h3]
                simp only [Option.bind_some]
                rw [h4]
                simp only [Option.bind_some]
                exact ⟨_, _, rfl, fun _ => ⟨_, rfl⟩⟩
              | false =>
                rw [if_neg (by decide)]
                exact ⟨_, _, rfl, fun _ => ⟨_, rfl⟩⟩
    | named x =>
      have hN : 20 * (T.length - S.at_) + 2 ≤ N + 1 := hN
      have hp : x.size ≤ 10000 := hp
      have hn : (S.ns.length : Int) - S.at_ + 1 ≤ 20000 := hn
      rw [ev]
      have leaf : ∀ n : NodeL, ∃ ks S', addE n S = some (ks, S') ∧ (isOne (.named x) = true → ∃ v, ks = [v]) := fun n => by
        obtain ⟨v, S2, h2⟩ := add_ex G n h (by omega)
        exact ⟨_, _, h2, fun _ => ⟨_, rfl⟩⟩
      split
      · exact leaf _
      · split
        · exact leaf _
        · obtain ⟨o, S1, h1⟩ := open_ex G h (sg := ⟨#[40]⟩) (by decide)
          rw [h1]
          simp only [Option.bind_some]
          cases o with
          | true =>
            rw [if_pos rfl]
            obtain ⟨-, b, m⟩ := (open_to G h h1).2 rfl
            have := b.n
            have := b.d
            have := h.d0
            obtain ⟨ks, S2, h2, -⟩ := ih (.list ⟨#[41]⟩) S1 b.ok ⟨by decide, by omega, by omega⟩ (by show (S1.ns.length : Int) - S1.at_ + 0 ≤ _; omega) (by show _ + 14 ≤ _; have := b.ok.lt; omega)
            have a2 := ev_post G _ _ _ _ _ b.ok h2
            have := (b.trans a2).n
            obtain ⟨v, S3, h3⟩ := add_ex G ⟨5, 0, x, [], ks⟩ a2.ok (by simp [kOf] at *; omega)
            rw [h2]
            simp only [Option.bind_some]
            exact ⟨_, _, h3, fun _ => ⟨_, rfl⟩⟩
          | false =>
            rw [if_neg (by decide)]
            obtain rfl := (open_to G h h1).1 rfl
            obtain ⟨S2, h2⟩ := need_ex G h (sg := ⟨#[46]⟩) (by decide)
            have a2 := need_to G h h2
            obtain ⟨y, S3, h3⟩ := name_ex G a2.ok
            obtain ⟨a3, hy⟩ := name_to G a2.ok h3
            have := (a2.trans a3).n
            obtain ⟨v, S4, h4⟩ := add_ex G ⟨4, 0, x ++ ⟨#[46]⟩ ++ y, [], []⟩ a3.ok (by omega)
            rw [h2]
            simp only [Option.bind_some]
            rw [h3]
            simp only [Option.bind_some]
            rw [if_pos ⟨hp, hy⟩]
            exact ⟨_, _, h4, fun _ => ⟨_, rfl⟩⟩
    | list e =>
      have hN : 20 * (T.length - S.at_) + 14 ≤ N + 1 := hN
      obtain ⟨he, hd, hat⟩ : e ≠ ⟨#[]⟩ ∧ 1 ≤ S.d ∧ 1 ≤ S.at_ := hp
      have hn : (S.ns.length : Int) - S.at_ + 0 ≤ 20000 := hn
      obtain ⟨t, ht⟩ := tok_ex G h
      rw [ev, ht]
      simp only [Option.bind_some]
      by_cases hte : t.text = e
      · rw [if_pos hte]
        obtain ⟨S1, h1⟩ := close_ex G h he hd
        rw [h1]
        exact ⟨_, _, rfl, fun h => by cases h⟩
      · rw [if_neg hte]
        obtain ⟨v, S1, h1, a1⟩ := one1 .expr S rfl h trivial hn (by show _ + 13 ≤ _; omega)
        have := a1.n
        have := a1.at_
        have := a1.d
        obtain ⟨ks, S2, h2, -⟩ := ih (.lloop [v] e) S1 a1.ok ⟨he, by simp [dOf] at *; omega, by show 1 ≤ _; omega⟩ (by show (S1.ns.length : Int) - S1.at_ + 0 ≤ _; simp [kOf] at *; omega) (by show _ + 5 ≤ _; have := a1.ok.lt; omega)
        rw [h1]
        simp only [Option.bind_some]
        exact ⟨ks, S2, h2, fun h => by cases h⟩
    | lloop l e =>
      have hN : 20 * (T.length - S.at_) + 5 ≤ N + 1 := hN
      obtain ⟨he, hd, hat⟩ : e ≠ ⟨#[]⟩ ∧ 1 ≤ S.d ∧ l.length ≤ S.at_ := hp
      have hn : (S.ns.length : Int) - S.at_ + 0 ≤ 20000 := hn
      obtain ⟨o, S1, h1⟩ := take_ex G h (sg := ⟨#[44]⟩) (by decide)
      rw [ev, h1]
      simp only [Option.bind_some]
      cases o with
      | true =>
        rw [if_pos rfl]
        obtain ⟨-, e1, a1⟩ := (take_to G h h1).2 rfl
        have m1 : S1.at_ = S.at_ + 1 := by rw [e1]
        have := a1.n
        obtain ⟨v, S2, h2, a2⟩ := one1 .expr S1 rfl a1.ok trivial (by show (S1.ns.length : Int) - S1.at_ + 0 ≤ _; omega) (by show _ + 13 ≤ _; have := a1.ok.lt; omega)
        have := (a1.trans a2).n
        have := a2.at_
        have := a1.d
        have := a2.d
        have := G.few
        obtain ⟨ks, S3, h3, -⟩ := ih (.lloop (l ++ [v]) e) S2 a2.ok ⟨he, by simp [dOf] at *; omega, by simp; omega⟩ (by show (S2.ns.length : Int) - S2.at_ + 0 ≤ _; simp [kOf] at *; omega) (by show _ + 5 ≤ _; have := a2.ok.lt; omega)
        rw [h2]
        simp only [Option.bind_some]
        rw [if_pos (by omega)]
        exact ⟨ks, S3, h3, fun h => by cases h⟩
      | false =>
        rw [if_neg (by decide)]
        obtain rfl := (take_to G h h1).1 rfl
        obtain ⟨S2, h2⟩ := close_ex G h he hd
        rw [h2]
        exact ⟨_, _, rfl, fun h => by cases h⟩
end
end Go.Proofs.YtkbbhgipajhbnaaDoor
