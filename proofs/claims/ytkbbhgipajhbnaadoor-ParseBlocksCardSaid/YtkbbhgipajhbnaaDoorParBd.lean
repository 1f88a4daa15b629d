/- The law of brackets: what Expr and Parse tell of its texts. -/
import Derived.Test.YtkbbhgipajhbnaaDoorParBc
namespace Go.Proofs.YtkbbhgipajhbnaaDoor
open Go.RowKit
set_option linter.unusedVariables false
set_option linter.unusedSimpArgs false
/-- Tokens of an expression: good ones, none of them an end. -/
structure Toks (T0 : List TokL) : Prop where
  ok : ∀ t ∈ T0, OkTok t
  kind : ∀ t ∈ T0, t.kind ≠ 0
  few : T0.length ≤ 9000
theorem expr_alone {T0 : List TokL} {N : Nat} {l : List NodeL} (H : Toks T0) (h : exprT N (T0 ++ [laT]) = some (0, l)) : ∃ v, ev (T0 ++ [laT]) N .expr ⟨0, 0, [], 0⟩ = some ([v], ⟨T0.length, 0, l, 0⟩) := by
  have G := good_of H.ok (by have := H.few; omega)
  unfold exprT at h
  split at h
  · simp only [Option.bind_eq_some_iff, Prod.exists] at h
    obtain ⟨ns, S1, h1, S2, h2, h⟩ := h
    unfold treeE at h1
    simp only [Option.bind_eq_some_iff, Prod.exists] at h1
    obtain ⟨v, S', h3, h1⟩ := h1
    simp only [Option.some.injEq, Prod.mk.injEq] at h1 h
    obtain ⟨rfl, rfl⟩ := h1
    obtain ⟨hf, h⟩ := h
    rw [if_pos hf] at h
    have a := ev_post G _ _ _ _ _ (start_ok G) (one_eq h3)
    obtain ⟨t, ht⟩ := tok_ex G a.ok
    unfold endS at h2
    rw [ht] at h2
    have h2 := Option.some.inj h2
    have hk : t.kind = 0 := by
      by_cases hk : t.kind = 0
      · exact hk
      · rw [if_neg hk] at h2
        rw [← h2] at hf
        exact absurd hf (fail_f G 5 (by decide))
    rw [if_pos hk] at h2
    subst h2
    have hat : S'.at_ = T0.length := by
      have hl := a.ok.lt
      rw [List.length_append] at hl
      simp at hl
      by_cases he : S'.at_ < T0.length
      · rw [List.getElem?_append_left he] at ht
        exact absurd hk (H.kind t (List.mem_of_getElem? ht))
      · omega
    have hd := a.d
    obtain ⟨sa, sf, sn, sd⟩ := S'
    simp only [dOf] at hat hf h hd
    subst hat; subst hf; subst h
    refine ⟨v, ?_⟩
    rw [one_eq h3]
    have : sd = 0 := by simpa using hd
    rw [this]
  · cases h
section
variable {T0 : List TokL} (H : Toks T0)
include H
def brT (T0 : List TokL) (k : Nat) : List TokL := List.replicate k (sgT ⟨#[40]⟩) ++ T0 ++ List.replicate k (sgT ⟨#[41]⟩) ++ [laT]
theorem br_good (k : Nat) (hk : k ≤ 5) : GoodT (brT T0 k) := by
  have := H.few
  refine good_of (fun t ht => ?_) (by simp; omega)
  simp only [List.mem_append, List.mem_replicate] at ht
  rcases ht with (⟨-, rfl⟩ | ht) | ⟨-, rfl⟩
  · exact sg_ok _ (by decide)
  · exact H.ok t ht
  · exact sg_ok _ (by decide)
theorem br_len (k : Nat) : (brT T0 k).length = T0.length + 2 * k + 1 := by have := H.few; unfold brT; simp; omega
theorem br_lp (k i : Nat) (hi : i < k) : (brT T0 k)[i]? = some (sgT ⟨#[40]⟩) := by
  have := H.few
  unfold brT
  rw [List.append_assoc, List.append_assoc, List.getElem?_append_left (by simpa using hi), List.getElem?_replicate, if_pos hi]
theorem br_mid (k i : Nat) (hi : i < T0.length) : (brT T0 k)[i + k]? = T0[i]? := by
  have := H.few
  unfold brT
  rw [List.append_assoc, List.append_assoc, List.getElem?_append_right (by simp), List.getElem?_append_left (by simp; omega)]
  simp
theorem br_rp (k i : Nat) (hi : i < k) : (brT T0 k)[T0.length + k + i]? = some (sgT ⟨#[41]⟩) := by
  have := H.few
  unfold brT
  rw [List.append_assoc, List.getElem?_append_right (by simp; omega), List.getElem?_append_left (by simp; omega), List.getElem?_replicate, if_pos (by simp; omega)]
theorem br_end (k : Nat) : (brT T0 k)[T0.length + k + k]? = some laT := by
  have := H.few
  unfold brT
  rw [List.getElem?_append_right (by simp; omega)]
  have e : T0.length + k + k - (List.replicate k (sgT ⟨#[40]⟩) ++ T0 ++ List.replicate k (sgT ⟨#[41]⟩)).length = 0 := by simp; omega
  rw [e]
  rfl
theorem br_sim (k : Nat) (hk0 : 0 < k) (hk : k ≤ 5) : Sim (T0 ++ [laT]) (brT T0 k) k where
  G := good_of H.ok (by have := H.few; omega)
  G' := br_good H k hk
  tok := fun i hi => by
    have hi : i < T0.length := by simpa using hi
    rw [br_mid H k i hi, List.getElem?_append_left hi]
  next := ⟨sgT ⟨#[41]⟩, by
    have := br_rp H k 0 hk0
    simpa using this, rfl, .inl rfl⟩
theorem br_ok (k j : Nat) (hj : j ≤ k) (hk : k ≤ 5) : OkS (brT T0 k) ⟨j, 0, [], j⟩ :=
  ⟨by show j < _; rw [br_len H]; omega, by show (0 : Int) ≤ j; omega, by show (j : Int) ≤ 65; omega, fun _ => by show (j : Int) ≤ 64; omega, fun h => absurd rfl h, Int.le_refl _, by show (0 : Int) ≤ 6; decide⟩
theorem br_ev {N M : Nat} {l : List NodeL} (k : Nat) (hk0 : 0 < k) (hk : k ≤ 5) {v : Int} (h : ev (T0 ++ [laT]) M .expr ⟨0, 0, [], 0⟩ = some ([v], ⟨T0.length, 0, l, 0⟩)) :
    ∀ g j, j + g = k → ∀ ks Sf, ev (brT T0 k) (M + 10 * g) .expr ⟨j, 0, [], j⟩ = some (ks, Sf) → Sf.f ≠ 6 → ks = [v] ∧ Sf = ⟨T0.length + k + g, 0, l, j⟩ := by
  have G' := br_good H k hk
  intro g
  induction g with
  | zero =>
    intro j hj ks Sf hs h6
    obtain rfl : j = k := by omega
    have X := br_sim H j hk0 hk
    have e : shS j (j : Int) ⟨0, 0, [], 0⟩ = ⟨j, 0, [], j⟩ := by
      unfold shS
      show (⟨0 + j, 0, [], 0 + (j : Int)⟩ : PS) = _
      rw [Nat.zero_add, Int.zero_add]
    obtain ⟨e1, e2⟩ := ev_sim X (j : Int) _ _ _ _ _ _ _ (start_ok X.G) (by rw [e]; exact br_ok H j j (Nat.le_refl _) hk) (by trivial) h rfl (by rw [e]; exact hs) (.inl h6)
    refine ⟨e1, ?_⟩
    rw [e2]
    show (⟨T0.length + j, 0, l, 0 + (j : Int)⟩ : PS) = _
    rw [Int.zero_add]
    rfl
  | succ g ih =>
    intro j hj ks Sf hs h6
    have hjk : j < k := by omega
    have hok := br_ok H k j (by omega) hk
    have hs : ev (brT T0 k) (M + 10 * g + 10) .expr ⟨j, 0, [], j⟩ = some (ks, Sf) := hs
    obtain ⟨u, So, Si, Sc, h1, h2, h3, h4⟩ := bracket_inv G' hok (br_lp H k j hjk) hs
    have a1 := ((open_to G' hok h1).2 rfl).2.1
    have a2 := ev_post G' _ _ _ _ _ a1.ok h2
    have a3 := close_to G' a2.ok h3
    have hSo : So = ⟨j + 1, 0, [], ((j + 1 : Nat) : Int)⟩ := by
      unfold openS takeS at h1
      rw [br_lp H k j hjk] at h1
      simp only at h1
      rw [if_pos (show (sgT ⟨#[40]⟩).text = ⟨#[40]⟩ from rfl), if_pos (by rw [br_len H]; omega)] at h1
      simp only at h1
      rw [if_pos ⟨by omega, by omega⟩, if_neg (by omega)] at h1
      have h1 := Option.some.inj h1
      simp only [Prod.mk.injEq, true_and] at h1
      rw [← h1]
      congr 1
    subst hSo
    have h6c : Sc.f ≠ 6 := fun e => h6 (h4.2 e)
    have h6i : Si.f ≠ 6 := fun e => h6c (six_of G' a3 e)
    obtain ⟨e1, e2⟩ := ih (j + 1) (by omega) _ _ h2 h6i
    subst e2
    have e1 : u = v := by simpa using e1
    subst e1
    have hrp := br_rp H k g (by omega)
    have hSc : Sc = ⟨T0.length + k + (g + 1), 0, l, j⟩ := by
      unfold closeS needS takeS at h3
      simp only at h3
      rw [hrp] at h3
      simp only at h3
      rw [if_pos (show (sgT ⟨#[41]⟩).text = ⟨#[41]⟩ from rfl), if_pos (by rw [br_len H]; omega)] at h3
      simp only at h3
      unfold downS at h3
      rw [if_pos ⟨by show (0 : Int) < ((j + 1 : Nat) : Int); omega, by show ((j + 1 : Nat) : Int) ≤ 1000; omega⟩] at h3
      have h3 := Option.some.inj h3
      rw [← h3]
      congr 1
      show ((j + 1 : Nat) : Int) - 1 = j
      omega
    subst hSc
    have hnext : ∃ t, (brT T0 k)[T0.length + k + (g + 1)]? = some t ∧ Cl3 t := by
      by_cases hj0 : j = 0
      · refine ⟨laT, ?_, .inr (.inr rfl)⟩
        have : g + 1 = k := by omega
        rw [this]; exact br_end H k
      · exact ⟨_, br_rp H k (g + 1) (by omega), .inl rfl⟩
    obtain ⟨t, ht, hc⟩ := hnext
    exact h4.1 t ht hc
/-- With k brackets around. -/
theorem br_expr {M : Nat} {l : List NodeL} (k : Nat) (hk : k ≤ 5) (hM : 20 * (T0.length + 11) + 13 ≤ M) (h : exprT M (T0 ++ [laT]) = some (0, l)) : exprT (M + 10 * k) (brT T0 k) = some (0, l) ∨ exprT (M + 10 * k) (brT T0 k) = some (6, []) := by
  by_cases hk0 : k = 0
  · subst hk0
    left
    have : brT T0 0 = T0 ++ [laT] := by unfold brT; simp
    rw [this]; exact h
  · obtain ⟨v, hv⟩ := expr_alone H h
    have G' := br_good H k hk
    have hlen := br_len H k
    have few := H.few
    obtain ⟨ks, Sf, h1, h2⟩ := ev_total G' (M + 10 * k) .expr ⟨0, 0, [], 0⟩ (start_ok G') trivial (by show ((0 : Nat) : Int) - ((0 : Nat) : Int) + 0 ≤ _; omega) (by show 20 * (_ - 0) + 13 ≤ _; omega)
    obtain ⟨v', rfl⟩ := h2 rfl
    have a := ev_post G' _ _ _ _ _ (start_ok G') h1
    have htree : treeE (M + 10 * k) (brT T0 k) ⟨0, 0, [], 0⟩ = some (Sf.ns, Sf) := by
      unfold treeE
      show (one (ev (brT T0 k) (M + 10 * k) .expr ⟨0, 0, [], 0⟩)).bind _ = _
      rw [one_of h1 rfl]; rfl
    have hpos : 0 < (brT T0 k).length ∧ (brT T0 k).length ≤ 100000 := by rw [hlen]; omega
    by_cases h6 : Sf.f = 6
    · right
      unfold exprT
      rw [if_pos hpos, htree]
      simp only [Option.bind_some]
      obtain ⟨t, ht⟩ := tok_ex G' a.ok
      unfold endS
      rw [ht]
      simp only [Option.bind_some]
      have hf : (if t.kind = 0 then Sf else failS (brT T0 k) 5 Sf).f = 6 := by
        split
        · exact h6
        · show (if Sf.f = 0 then (5 : Int) else Sf.f) = 6
          rw [if_neg (by rw [h6]; decide), h6]
      rw [hf, if_neg (by decide)]
    · left
      obtain ⟨-, rfl⟩ := br_ev H (N := 0) k (by omega) hk hv k 0 (by omega) _ _ (by exact h1) h6
      unfold exprT
      rw [if_pos hpos, htree]
      simp only [Option.bind_some]
      unfold endS
      simp only
      rw [br_end H k]
      rfl
def atT (T0 : List TokL) : List TokL := [nmT ⟨#[108, 111, 99, 97, 108, 115]⟩, sgT ⟨#[123]⟩, nmT ⟨#[97]⟩, sgT ⟨#[61]⟩] ++ T0 ++ [sgT ⟨#[125]⟩] ++ [laT]
theorem at_good : GoodT (atT T0) := by
  have := H.few
  refine good_of (fun t ht => ?_) (by simp; omega)
  simp only [List.mem_append, List.mem_cons, List.mem_nil_iff, or_false] at ht
  rcases ht with ((rfl | rfl | rfl | rfl) | ht) | rfl
  · exact nm_ok _ (by decide)
  · exact sg_ok _ (by decide)
  · exact nm_ok _ (by decide)
  · exact sg_ok _ (by decide)
  · exact H.ok t ht
  · exact sg_ok _ (by decide)
theorem at_len : (atT T0).length = T0.length + 6 := by have := H.few; unfold atT; simp
theorem at_mid (i : Nat) (hi : i < T0.length) : (atT T0)[i + 4]? = T0[i]? := by
  have := H.few
  unfold atT
  rw [List.append_assoc, List.append_assoc, List.getElem?_append_right (by simp), List.getElem?_append_left (by simp; omega)]
  simp
theorem at_rb : (atT T0)[T0.length + 4]? = some (sgT ⟨#[125]⟩) := by
  have := H.few
  unfold atT
  rw [List.append_assoc, List.getElem?_append_right (by simp)]
  simp
theorem at_end : (atT T0)[T0.length + 5]? = some laT := by
  have := H.few
  unfold atT
  rw [List.getElem?_append_right (by simp)]
  simp
theorem at_simT : Sim (T0 ++ [laT]) (atT T0) 4 where
  G := good_of H.ok (by have := H.few; omega)
  G' := at_good H
  tok := fun i hi => by
    have hi : i < T0.length := by simpa using hi
    rw [at_mid H i hi, List.getElem?_append_left hi]
  next := ⟨sgT ⟨#[125]⟩, by have := at_rb H; simpa using this, rfl, .inr rfl⟩
/-- As an attribute. -/
theorem at_parse {N M : Nat} {l : List NodeL} (hN : 20 * (T0.length + 11) + 13 ≤ N) (hM : 9000 < M) (h : exprT N (T0 ++ [laT]) = some (0, l)) : parseT N M (atT T0) = some (0, [.mk 2 ⟨#[]⟩ [⟨⟨#[97]⟩, l⟩] []]) := by
  obtain ⟨v, hv⟩ := expr_alone H h
  have X := at_simT H
  have G' := at_good H
  have hlen := at_len H
  have few := H.few
  obtain ⟨M, rfl⟩ : ∃ m, M = m + 2 := ⟨M - 2, by omega⟩
  have ok4 : OkS (atT T0) ⟨4, 0, [], 0⟩ := ⟨by show 4 < _; rw [hlen]; omega, Int.le_refl _, by decide, fun _ => by decide, fun h => absurd rfl h, Int.le_refl _, by decide⟩
  obtain ⟨ks, Sf, h1, h2⟩ := ev_total G' N .expr ⟨4, 0, [], 0⟩ ok4 trivial (by show ((0 : Nat) : Int) - ((4 : Nat) : Int) + 0 ≤ _; omega) (by show 20 * (_ - 4) + 13 ≤ _; omega)
  obtain ⟨e1, e2⟩ := ev_sim X 0 _ _ _ _ _ _ _ (start_ok X.G) (show OkS (atT T0) ⟨4, 0, [], 0⟩ from ok4) (by trivial) hv rfl (show ev (atT T0) N .expr ⟨4, 0, [], 0⟩ = _ from h1) (.inr rfl)
  subst e1
  have e2 : Sf = ⟨T0.length + 4, 0, l, 0⟩ := e2
  subst e2
  have ht : treeE N (atT T0) ⟨4, 0, [], 0⟩ = some (l, ⟨T0.length + 4, 0, l, 0⟩) := by
    unfold treeE
    show (one (ev (atT T0) N .expr ⟨4, 0, [], 0⟩)).bind _ = _
    rw [one_of h1 rfl]; rfl
  have g0 : (atT T0)[0]? = some (nmT ⟨#[108, 111, 99, 97, 108, 115]⟩) := rfl
  have g1 : (atT T0)[1]? = some (sgT ⟨#[123]⟩) := rfl
  have g2 : (atT T0)[2]? = some (nmT ⟨#[97]⟩) := rfl
  have g3 : (atT T0)[3]? = some (sgT ⟨#[61]⟩) := rfl
  have s0 : stepS (atT T0) ⟨0, 0, [], 0⟩ = some ⟨1, 0, [], 0⟩ := by unfold stepS; rw [if_pos (by rw [hlen]; show 0 + 1 < _; omega)]
  have s1 : needS (atT T0) ⟨#[123]⟩ ⟨1, 0, [], 0⟩ = some ⟨2, 0, [], 0⟩ := by
    unfold needS takeS
    simp only
    rw [g1]
    simp only
    rw [if_pos (show (sgT ⟨#[123]⟩).text = ⟨#[123]⟩ from rfl), if_pos (by rw [hlen]; omega)]
  have s2 : nameS (atT T0) ⟨2, 0, [], 0⟩ = some (⟨#[97]⟩, ⟨3, 0, [], 0⟩) := by
    unfold nameS
    simp only
    rw [g2]
    simp only
    rw [if_pos (show (nmT ⟨#[97]⟩).kind = 3 from rfl), if_pos (by rw [hlen]; omega)]
    rfl
  have s3 : needS (atT T0) ⟨#[61]⟩ ⟨3, 0, [], 0⟩ = some ⟨4, 0, [], 0⟩ := by
    unfold needS takeS
    simp only
    rw [g3]
    simp only
    rw [if_pos (show (sgT ⟨#[61]⟩).text = ⟨#[61]⟩ from rfl), if_pos (by rw [hlen]; omega)]
  have s4 : needS (atT T0) ⟨#[125]⟩ ⟨T0.length + 4, 0, l, 0⟩ = some ⟨T0.length + 5, 0, l, 0⟩ := by
    unfold needS takeS
    simp only
    rw [at_rb H]
    simp only
    rw [if_pos (show (sgT ⟨#[125]⟩).text = ⟨#[125]⟩ from rfl), if_pos (by rw [hlen]; omega)]
  have k2 : kindOf ⟨#[108, 111, 99, 97, 108, 115]⟩ = 2 := by decide +kernel
  have ha : attrE N (atT T0) (M + 2) [] ⟨2, 0, [], 0⟩ = some ([⟨⟨#[97]⟩, l⟩], ⟨T0.length + 4, 0, l, 0⟩) := by
    rw [attrE]
    simp only
    rw [g2]
    simp only [Option.bind_some]
    rw [if_pos (show (nmT ⟨#[97]⟩).kind = 3 from rfl), if_pos ⟨by decide, by decide⟩, if_neg (by decide), s2]
    simp only [Option.bind_some]
    rw [s3]
    simp only [Option.bind_some]
    rw [ht]
    simp only [Option.bind_some]
    rw [attrE]
    simp only
    rw [at_rb H]
    simp only [Option.bind_some]
    rw [if_neg (show ¬ (sgT ⟨#[125]⟩).kind = 3 by decide)]
    rfl
  have hb : blockE N (M + 2) (atT T0) false (blocks1 N (M + 2) (atT T0)) ⟨0, 0, [], 0⟩ = some (.mk 2 ⟨#[]⟩ [⟨⟨#[97]⟩, l⟩] [], ⟨T0.length + 5, 0, l, 0⟩) := by
    unfold blockE
    simp only
    rw [g0]
    simp only [Option.bind_some]
    have ek : kindOf (nmT ⟨#[108, 111, 99, 97, 108, 115]⟩).text = 2 := k2
    rw [ek, if_neg (by decide), s0]
    simp only [Option.bind_some]
    rw [if_pos trivial]
    simp only [Option.bind_some]
    rw [s1]
    simp only [Option.bind_some]
    rw [if_neg (by decide), ha]
    simp only [Option.bind_some]
    rw [s4]
    rfl
  unfold parseT
  rw [if_pos (by rw [hlen]; omega)]
  unfold blocks0
  rw [blocksE]
  simp only
  rw [g0]
  simp only [Option.bind_some]
  rw [if_pos (show (nmT ⟨#[108, 111, 99, 97, 108, 115]⟩).kind = 3 from rfl), hb]
  simp only [Option.bind_some]
  rw [if_pos (by decide), blocksE]
  simp only
  rw [at_end H]
  simp only [Option.bind_some]
  rw [if_neg (show ¬ laT.kind = 3 by decide)]
  simp only [Option.bind_some]
  unfold endS
  simp only
  rw [at_end H]
  rfl
end
end Go.Proofs.YtkbbhgipajhbnaaDoor
