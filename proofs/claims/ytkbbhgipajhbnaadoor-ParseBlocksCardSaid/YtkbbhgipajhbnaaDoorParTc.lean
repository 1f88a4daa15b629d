/- The reader of blocks always comes to an end. -/
import Derived.Test.YtkbbhgipajhbnaaDoorParTb
import Derived.Test.YtkbbhgipajhbnaaDoorParP
namespace Go.Proofs.YtkbbhgipajhbnaaDoor
open Go.RowKit
set_option linter.unusedVariables false
set_option linter.unusedSimpArgs false
structure To2 (T : List TokL) (S S' : PS) : Prop where
  ok : OkS T S'
  at_ : S.at_ ≤ S'.at_
  d : S'.d = S.d
  keep : S.f ≠ 0 → S'.f = S.f
theorem To.two {T : List TokL} {k : Int} {S S' : PS} (h : To T 0 k S S') : To2 T S S' := ⟨h.ok, h.at_, by have := h.d; omega, h.keep⟩
theorem To2.trans {T : List TokL} {S S1 S2 : PS} (h : To2 T S S1) (k : To2 T S1 S2) : To2 T S S2 :=
  ⟨k.ok, Nat.le_trans h.at_ k.at_, k.d.trans h.d, fun hf => by
    have h1 := h.keep hf
    exact (k.keep (by rw [h1]; exact hf)).trans h1⟩
section
variable {T : List TokL} (G : GoodT T) (N M : Nat) (hN : 20 * T.length + 13 ≤ N) (hM : T.length < M)
include G
theorem tree_ex {S : PS} (hN : 20 * T.length + 13 ≤ N) (h : OkS T S) : ∃ ns S', treeE N T S = some (ns, S') ∧ To2 T S S' := by
  have h0 : OkS T ⟨S.at_, S.f, [], S.d⟩ := ⟨h.lt, h.d0, h.d1, h.d2, h.e, h.f0, h.f1⟩
  obtain ⟨ks, S', h1, h2⟩ := ev_total G N .expr ⟨S.at_, S.f, [], S.d⟩ h0 trivial (by show ((0 : Nat) : Int) - S.at_ + 0 ≤ _; omega) (by show 20 * (T.length - S.at_) + 13 ≤ _; omega)
  obtain ⟨v, rfl⟩ := h2 rfl
  have a := ev_post G _ _ _ _ _ h0 h1
  unfold treeE
  rw [one_of h1 rfl]
  exact ⟨_, _, rfl, ⟨a.ok, a.at_, by have := a.d; simp [dOf] at this; exact this, a.keep⟩⟩
theorem attr_ex (hN : 20 * T.length + 13 ≤ N) : ∀ m l S, OkS T S → l.length ≤ S.at_ → T.length - S.at_ < m → ∃ rs S', attrE N T m l S = some (rs, S') ∧ To2 T S S' := by
  intro m
  induction m with
  | zero => intro l S h _ hm; omega
  | succ m ih =>
    intro l S h hl hm
    obtain ⟨t, ht⟩ := tok_ex G h
    have hlt := h.lt
    have few := G.few
    rw [attrE, ht]
    simp only [Option.bind_some]
    by_cases k3 : t.kind = 3
    · rw [if_pos k3, if_pos ⟨by have := G.text t (List.mem_of_getElem? ht); omega, by omega⟩]
      split
      · exact ⟨_, _, rfl, (fail_to G 3 (by decide) h).two⟩
      · have hn := not_end G h ht (.inl (by rw [k3]; decide))
        have hnm : nameS T S = some (t.text, ⟨S.at_ + 1, S.f, S.ns, S.d⟩) := by
          unfold nameS
          rw [ht]
          simp only [if_pos k3, if_pos hn]
        have a1 := (step_to G h hn).2.two
        obtain ⟨S2, h2⟩ := need_ex G a1.ok (sg := ⟨#[61]⟩) (by decide)
        have a2 := (need_to G a1.ok h2).two
        obtain ⟨ns, S3, h3, a3⟩ := tree_ex G N hN a2.ok
        have a4 := (a1.trans a2).trans a3
        have hat : S.at_ + 1 ≤ S3.at_ := Nat.le_trans a2.at_ a3.at_
        obtain ⟨rs, S4, h4, a5⟩ := ih (l ++ [⟨t.text, ns⟩]) S3 a3.ok (by simp; omega) (by omega)
        rw [hnm]
        simp only [Option.bind_some]
        rw [h2]
        simp only [Option.bind_some]
        rw [h3]
        simp only [Option.bind_some]
        exact ⟨rs, S4, h4, a4.trans a5⟩
    · rw [if_neg k3]
      exact ⟨_, _, rfl, (To.refl h).two⟩
theorem label_ex {S : PS} {t : TokL} (h : OkS T S) : ∃ x S', labelE T S = some (x, S') ∧ To2 T S S' := by
  obtain ⟨t, ht⟩ := tok_ex G h
  have fl : ∃ x S', some ((⟨#[]⟩ : ByteArray), failS T 5 S) = some (x, S') ∧ To2 T S S' := ⟨_, _, rfl, (fail_to G 5 (by decide) h).two⟩
  unfold labelE
  rw [ht]
  simp only [Option.bind_some]
  by_cases k2 : t.kind = 2
  · rw [if_pos k2]
    have hp := G.parts t (List.mem_of_getElem? ht)
    have hn := not_end G h ht (.inl (by rw [k2]; decide))
    match hps : t.parts with
    | [] => exact fl
    | [(true, x)] => exact fl
    | [(false, x)] =>
      have hx := hp (false, x) (by rw [hps]; simp)
      simp only at hx
      simp only
      rw [if_pos (by omega)]
      split
      · have hs : stepS T S = some ⟨S.at_ + 1, S.f, S.ns, S.d⟩ := by unfold stepS; rw [if_pos hn]
        rw [hs]
        exact ⟨_, _, rfl, (step_to G h hn).2.two⟩
      · exact fl
    | a :: b :: r =>
      obtain ⟨b1, x⟩ := a
      cases b1 <;> exact fl
  · rw [if_neg k2]; exact fl
theorem kind_end : kindOf ⟨#[]⟩ = 0 := by
  have hG := G.pos
  decide +kernel
theorem block_ex (hN : 20 * T.length + 13 ≤ N) (hM : T.length < M) (inDef : Bool) (inner : PS → Option (List BlockL × PS)) (hi : inDef = false → ∀ S, OkS T S → ∃ rs S', inner S = some (rs, S') ∧ To2 T S S') {S : PS} (h : OkS T S) {t : TokL} (ht : T[S.at_]? = some t) (hk : t.kind = 3) :
    ∃ x S', blockE N M T inDef inner S = some (x, S') ∧ To2 T S S' ∧ S.at_ + 1 ≤ S'.at_ := by
  have hn := not_end G h ht (.inl (by rw [hk]; decide))
  unfold blockE
  rw [ht]
  simp only [Option.bind_some]
  split
  · exact ⟨_, _, rfl, (fail_to G 5 (by decide) h).two, by show S.at_ + 1 ≤ T.length - 1; omega⟩
  · rename_i hno
    have a1 := (step_to G h hn).2.two
    have hs : stepS T S = some ⟨S.at_ + 1, S.f, S.ns, S.d⟩ := by unfold stepS; rw [if_pos hn]
    have hl : ∃ lb S2, (if kindOf t.text = 2 then some ((⟨#[]⟩ : ByteArray), (⟨S.at_ + 1, S.f, S.ns, S.d⟩ : PS)) else labelE T ⟨S.at_ + 1, S.f, S.ns, S.d⟩) = some (lb, S2) ∧ To2 T ⟨S.at_ + 1, S.f, S.ns, S.d⟩ S2 := by
      split
      · exact ⟨_, _, rfl, (To.refl a1.ok).two⟩
      · exact label_ex G (t := t) a1.ok
    obtain ⟨lb, S2, h2, a2⟩ := hl
    obtain ⟨S3, h3⟩ := need_ex G a2.ok (sg := ⟨#[123]⟩) (by decide)
    have a3 := (need_to G a2.ok h3).two
    have b3 := (a1.trans a2).trans a3
    have hat : S.at_ + 1 ≤ S3.at_ := Nat.le_trans a2.at_ a3.at_
    rw [hs]
    simp only [Option.bind_some]
    rw [h2]
    simp only [Option.bind_some]
    rw [h3]
    simp only [Option.bind_some]
    split
    · rename_i h5
      have hdef : inDef = false := by
        cases inDef
        · rfl
        · exact absurd (.inr ⟨h5, rfl⟩) hno
      obtain ⟨bs, S4, h4, a4⟩ := hi hdef S3 a3.ok
      obtain ⟨S5, h5'⟩ := need_ex G a4.ok (sg := ⟨#[125]⟩) (by decide)
      have a5 := (need_to G a4.ok h5').two
      rw [h4]
      simp only [Option.bind_some]
      rw [h5']
      exact ⟨_, _, rfl, (b3.trans a4).trans a5, Nat.le_trans hat (Nat.le_trans a4.at_ a5.at_)⟩
    · obtain ⟨al, S4, h4, a4⟩ := attr_ex G N hN M [] S3 a3.ok (Nat.zero_le _) (by omega)
      obtain ⟨S5, h5'⟩ := need_ex G a4.ok (sg := ⟨#[125]⟩) (by decide)
      have a5 := (need_to G a4.ok h5').two
      rw [h4]
      simp only [Option.bind_some]
      rw [h5']
      exact ⟨_, _, rfl, (b3.trans a4).trans a5, Nat.le_trans hat (Nat.le_trans a4.at_ a5.at_)⟩
theorem blocks_ex (blk : PS → Option (BlockL × PS)) (hb : ∀ S, OkS T S → ∀ t, T[S.at_]? = some t → t.kind = 3 → ∃ x S', blk S = some (x, S') ∧ To2 T S S' ∧ S.at_ + 1 ≤ S'.at_) :
    ∀ m l S, OkS T S → l.length ≤ S.at_ → T.length - S.at_ < m → ∃ rs S', blocksE blk T m l S = some (rs, S') ∧ To2 T S S' := by
  intro m
  induction m with
  | zero => intro l S h _ hm; omega
  | succ m ih =>
    intro l S h hl hm
    obtain ⟨t, ht⟩ := tok_ex G h
    have hlt := h.lt
    have few := G.few
    rw [blocksE, ht]
    simp only [Option.bind_some]
    by_cases k3 : t.kind = 3
    · rw [if_pos k3]
      obtain ⟨x, S1, h1, a1, hat⟩ := hb S h t ht k3
      rw [h1]
      simp only [Option.bind_some]
      rw [if_pos (by omega)]
      obtain ⟨rs, S2, h2, a2⟩ := ih (l ++ [x]) S1 a1.ok (by simp; omega) (by omega)
      exact ⟨rs, S2, h2, a1.trans a2⟩
    · rw [if_neg k3]
      exact ⟨_, _, rfl, (To.refl h).two⟩
theorem start_ok : OkS T ⟨0, 0, [], 0⟩ := ⟨G.pos, Int.le_refl _, by decide, fun _ => by decide, fun h => absurd rfl h, Int.le_refl _, by decide⟩
theorem end_to {S : PS} (h : OkS T S) : ∃ S', endS T S = some S' ∧ 0 ≤ S'.f ∧ S'.f ≤ 6 := by
  obtain ⟨t, ht⟩ := tok_ex G h
  have a := fail_to G 5 (by decide) h
  unfold endS
  rw [ht]
  refine ⟨_, rfl, ?_⟩
  split
  · exact ⟨h.f0, h.f1⟩
  · exact ⟨a.ok.f0, a.ok.f1⟩
theorem parseT_ex (hN : 20 * T.length + 13 ≤ N) (hM : T.length < M) : ∃ er bs, parseT N M T = some (er, bs) ∧ 0 ≤ er ∧ er ≤ 6 ∧ (er ≠ 0 → bs = []) := by
  have few := G.few
  have h1 : ∀ S, OkS T S → ∃ rs S', blocks1 N M T S = some (rs, S') ∧ To2 T S S' := fun S h => by
    unfold blocks1
    exact blocks_ex G _ (fun S h t ht hk => block_ex G N M hN hM true _ (fun e => by cases e) h ht hk) M [] S h (Nat.zero_le _) (by omega)
  obtain ⟨bs, S1, h2, a2⟩ : ∃ rs S', blocks0 N M T ⟨0, 0, [], 0⟩ = some (rs, S') ∧ To2 T ⟨0, 0, [], 0⟩ S' := by
    unfold blocks0
    exact blocks_ex G _ (fun S h t ht hk => block_ex G N M hN hM false _ (fun _ => h1) h ht hk) M [] _ (start_ok G) (Nat.zero_le _) (by omega)
  obtain ⟨S2, h3, f0, f6⟩ := end_to G a2.ok
  unfold parseT
  rw [if_pos ⟨G.pos, by omega⟩, h2]
  simp only [Option.bind_some]
  rw [h3]
  exact ⟨_, _, rfl, f0, f6, fun h => if_neg h⟩
theorem exprT_ex (hN : 20 * T.length + 13 ≤ N) : ∃ er ns, exprT N T = some (er, ns) ∧ 0 ≤ er ∧ er ≤ 6 ∧ (er ≠ 0 → ns = []) := by
  have few := G.few
  obtain ⟨ns, S1, h2, a2⟩ := tree_ex G N hN (start_ok G)
  obtain ⟨S2, h3, f0, f6⟩ := end_to G a2.ok
  unfold exprT
  rw [if_pos ⟨G.pos, by omega⟩, h2]
  simp only [Option.bind_some]
  rw [h3]
  exact ⟨_, _, rfl, f0, f6, fun h => if_neg h⟩
end
end Go.Proofs.YtkbbhgipajhbnaaDoor
