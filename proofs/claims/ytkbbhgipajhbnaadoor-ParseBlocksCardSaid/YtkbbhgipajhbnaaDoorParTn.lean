/- How many parts and kids the nodes have that are told. -/
import Derived.Test.YtkbbhgipajhbnaaDoorParTa
namespace Go.Proofs.YtkbbhgipajhbnaaDoor
open Go.RowKit
set_option linter.unusedVariables false
set_option linter.unusedSimpArgs false
def NodeB (n : NodeL) : Prop := n.parts.length ≤ 9000 ∧ n.kids.length ≤ 200000
def LenC : Cl → Prop
  | .lloop l _ => l.length ≤ 100001
  | _ => True
section
variable {T : List TokL}
theorem ns_take {S S' : PS} {sg : ByteArray} {o : Bool} (h : takeS T sg S = some (o, S')) : S'.ns = S.ns := by
  unfold takeS at h
  split at h
  · cases h
  · split at h
    · split at h
      · cases h; rfl
      · cases h
    · cases h; rfl
theorem ns_need {S S' : PS} {sg : ByteArray} (h : needS T sg S = some S') : S'.ns = S.ns := by
  unfold needS at h
  split at h
  · cases h
  · rename_i h1; cases h; exact ns_take h1
  · rename_i U h1; cases h; exact (show U.ns = S.ns from ns_take h1)
theorem ns_name {S S' : PS} {x : ByteArray} (h : nameS T S = some (x, S')) : S'.ns = S.ns := by
  unfold nameS at h
  split at h
  · cases h
  · split at h
    · split at h
      · cases h; rfl
      · cases h
    · cases h; rfl
theorem ns_open {S S' : PS} {sg : ByteArray} {o : Bool} (h : openS T sg S = some (o, S')) : S'.ns = S.ns := by
  unfold openS at h
  split at h
  · cases h
  · rename_i h1; cases h; exact ns_take h1
  · rename_i U h1
    split at h
    · cases h
      rw [← ns_take h1]
      split <;> rfl
    · cases h
theorem ns_down {S S' : PS} (h : downS S = some S') : S'.ns = S.ns := by
  unfold downS at h
  split at h
  · cases h; rfl
  · cases h
theorem ns_close {S S' : PS} {sg : ByteArray} (h : closeS T sg S = some S') : S'.ns = S.ns := by
  unfold closeS at h
  split at h
  · cases h
  · rename_i h1; rw [ns_down h, ns_need h1]
theorem ns_step {S S' : PS} (h : stepS T S = some S') : S'.ns = S.ns := by
  unfold stepS at h
  split at h
  · cases h; rfl
  · cases h
theorem ns_add {S S' : PS} {n : NodeL} {ks : List Int} (h : addE n S = some (ks, S')) (hs : ∀ m ∈ S.ns, NodeB m) (hn : NodeB n) : (∀ m ∈ S'.ns, NodeB m) ∧ ks.length ≤ 100001 := by
  unfold addE at h
  split at h
  · cases h
    refine ⟨fun m hm => ?_, by simp⟩
    rcases List.mem_append.1 hm with hm | hm
    · exact hs m hm
    · simp at hm; subst hm; exact hn
  · cases h
theorem kids3 (k num : Int) (x : ByteArray) (ks : List Int) (h : ks.length ≤ 200000) : NodeB ⟨k, num, x, [], ks⟩ := ⟨Nat.zero_le _, h⟩
theorem ev_nodes (hp : ∀ t ∈ T, t.parts.length ≤ 9000) : ∀ N c S ks S', ev T N c S = some (ks, S') → (∀ m ∈ S.ns, NodeB m) → LenC c → (∀ m ∈ S'.ns, NodeB m) ∧ ks.length ≤ 100001 := by
  intro N
  induction N with
  | zero => intro c S ks S' hs; cases c <;> cases hs
  | succ N ih =>
    intro c S ks S' hs h hc
    cases c with
    | expr =>
      rw [ev] at hs
      simp only [Option.bind_eq_some_iff, Prod.exists] at hs
      obtain ⟨t, S1, h1, o, S2, h2, hs⟩ := hs
      have a1 := (ih _ _ _ _ (one_eq h1) h (by trivial)).1
      rw [← ns_open h2] at a1
      cases o with
      | false => rw [if_neg (by decide)] at hs; cases hs; exact ⟨a1, by simp⟩
      | true =>
        rw [if_pos rfl] at hs
        simp only [Option.bind_eq_some_iff, Prod.exists] at hs
        obtain ⟨y, S3, h3, S4, h4, z, S5, h5, S6, h6, hs⟩ := hs
        have a3 := (ih _ _ _ _ (one_eq h3) a1 (by trivial)).1
        rw [← ns_need h4] at a3
        have a5 := (ih _ _ _ _ (one_eq h5) a3 (by trivial)).1
        rw [← ns_down h6] at a5
        exact ns_add hs a5 (kids3 _ _ _ _ (by simp))
    | bin r =>
      rw [ev] at hs
      split at hs
      · exact ih _ _ _ _ hs h (by trivial)
      · simp only [Option.bind_eq_some_iff, Prod.exists] at hs
        obtain ⟨l, S1, h1, hs⟩ := hs
        exact ih _ _ _ _ hs (ih _ _ _ _ (one_eq h1) h (by trivial)).1 (by trivial)
    | loop r l =>
      rw [ev] at hs
      simp only [Option.bind_eq_some_iff, Prod.exists] at hs
      obtain ⟨t, ht, hs⟩ := hs
      split at hs
      · cases hs; exact ⟨h, by simp⟩
      · simp only [Option.bind_eq_some_iff, Prod.exists] at hs
        obtain ⟨S1, h1, x, S2, h2, v, S3, h3, hs⟩ := hs
        rw [← ns_step h1] at h
        have a2 := (ih _ _ _ _ (one_eq h2) h (by trivial)).1
        have a3 := (ns_add (one_eq h3) a2 (kids3 _ _ _ _ (by simp))).1
        split at hs
        · cases hs; exact ⟨a3, by simp⟩
        · exact ih _ _ _ _ hs a3 (by trivial)
    | un =>
      rw [ev] at hs
      simp only [Option.bind_eq_some_iff, Prod.exists] at hs
      obtain ⟨o, S1, h1, hs⟩ := hs
      rw [← ns_open h1] at h
      split at hs
      · exact ih _ _ _ _ hs h (by trivial)
      · simp only [Option.bind_eq_some_iff, Prod.exists] at hs
        obtain ⟨p, S2, h2, hs⟩ := hs
        rw [← ns_open h2] at h
        split at hs
        · exact ih _ _ _ _ hs h (by trivial)
        · exact ih _ _ _ _ hs h (by trivial)
    | ahead k =>
      rw [ev] at hs
      simp only [Option.bind_eq_some_iff, Prod.exists] at hs
      obtain ⟨v, S1, h1, S2, h2, hs⟩ := hs
      have a1 := (ih _ _ _ _ (one_eq h1) h (by trivial)).1
      rw [← ns_down h2] at a1
      exact ns_add hs a1 (kids3 _ _ _ _ (by simp))
    | post =>
      rw [ev] at hs
      simp only [Option.bind_eq_some_iff, Prod.exists] at hs
      obtain ⟨l, S1, h1, hs⟩ := hs
      exact ih _ _ _ _ hs (ih _ _ _ _ (one_eq h1) h (by trivial)).1 (by trivial)
    | ploop l =>
      rw [ev] at hs
      simp only [Option.bind_eq_some_iff, Prod.exists] at hs
      obtain ⟨o, S1, h1, hs⟩ := hs
      rw [← ns_open h1] at h
      split at hs
      · simp only [Option.bind_eq_some_iff, Prod.exists] at hs
        obtain ⟨i, S2, h2, S3, h3, v, S4, h4, hs⟩ := hs
        have a2 := (ih _ _ _ _ (one_eq h2) h (by trivial)).1
        rw [← ns_close h3] at a2
        exact ih _ _ _ _ hs (ns_add (one_eq h4) a2 (kids3 _ _ _ _ (by simp))).1 (by trivial)
      · cases hs; exact ⟨h, by simp⟩
    | prim =>
      rw [ev] at hs
      simp only [Option.bind_eq_some_iff, Prod.exists] at hs
      obtain ⟨t, ht, hs⟩ := hs
      split at hs
      · simp only [Option.bind_eq_some_iff] at hs
        obtain ⟨S1, h1, hs⟩ := hs
        rw [← ns_step h1] at h
        exact ns_add hs h (kids3 _ _ _ _ (by simp))
      · split at hs
        · simp only [Option.bind_eq_some_iff] at hs
          obtain ⟨S1, h1, hs⟩ := hs
          rw [← ns_step h1] at h
          exact ns_add hs h ⟨hp t (List.mem_of_getElem? ht), by simp⟩
        · split at hs
          · simp only [Option.bind_eq_some_iff] at hs
            obtain ⟨S1, h1, hs⟩ := hs
            rw [← ns_step h1] at h
            exact ih _ _ _ _ hs h (by trivial)
          · simp only [Option.bind_eq_some_iff, Prod.exists] at hs
            obtain ⟨o, S1, h1, hs⟩ := hs
            rw [← ns_open h1] at h
            split at hs
            · simp only [Option.bind_eq_some_iff, Prod.exists] at hs
              obtain ⟨l, S2, h2, hs⟩ := hs
              have a2 := ih _ _ _ _ h2 h (by trivial)
              exact ns_add hs a2.1 (kids3 _ _ _ _ (by have := a2.2; omega))
            · simp only [Option.bind_eq_some_iff, Prod.exists] at hs
              obtain ⟨p, S2, h2, hs⟩ := hs
              rw [← ns_open h2] at h
              split at hs
              · simp only [Option.bind_eq_some_iff, Prod.exists] at hs
                obtain ⟨v, S3, h3, S4, h4, hs⟩ := hs
                cases hs
                rw [ns_close h4]
                exact ⟨(ih _ _ _ _ (one_eq h3) h (by trivial)).1, by simp⟩
              · cases hs; exact ⟨h, by simp⟩
    | named x =>
      rw [ev] at hs
      split at hs
      · exact ns_add hs h (kids3 _ _ _ _ (by simp))
      · split at hs
        · exact ns_add hs h (kids3 _ _ _ _ (by simp))
        · simp only [Option.bind_eq_some_iff, Prod.exists] at hs
          obtain ⟨o, S1, h1, hs⟩ := hs
          rw [← ns_open h1] at h
          split at hs
          · simp only [Option.bind_eq_some_iff, Prod.exists] at hs
            obtain ⟨l, S2, h2, hs⟩ := hs
            have a2 := ih _ _ _ _ h2 h (by trivial)
            exact ns_add hs a2.1 (kids3 _ _ _ _ (by have := a2.2; omega))
          · simp only [Option.bind_eq_some_iff, Prod.exists] at hs
            obtain ⟨S2, h2, y, S3, h3, hs⟩ := hs
            rw [← ns_need h2, ← ns_name h3] at h
            split at hs
            · exact ns_add hs h (kids3 _ _ _ _ (by simp))
            · cases hs
    | list e =>
      rw [ev] at hs
      simp only [Option.bind_eq_some_iff, Prod.exists] at hs
      obtain ⟨t, ht, hs⟩ := hs
      split at hs
      · simp only [Option.bind_eq_some_iff] at hs
        obtain ⟨S1, h1, hs⟩ := hs
        cases hs
        rw [ns_close h1]
        exact ⟨h, by simp⟩
      · simp only [Option.bind_eq_some_iff, Prod.exists] at hs
        obtain ⟨v, S1, h1, hs⟩ := hs
        exact ih _ _ _ _ hs (ih _ _ _ _ (one_eq h1) h (by trivial)).1 (by show 1 ≤ 100001; decide)
    | lloop l e =>
      have hc : l.length ≤ 100001 := hc
      rw [ev] at hs
      simp only [Option.bind_eq_some_iff, Prod.exists] at hs
      obtain ⟨o, S1, h1, hs⟩ := hs
      rw [← ns_take h1] at h
      split at hs
      · simp only [Option.bind_eq_some_iff, Prod.exists] at hs
        obtain ⟨v, S2, h2, hs⟩ := hs
        have a2 := (ih _ _ _ _ (one_eq h2) h (by trivial)).1
        split at hs
        · rename_i hlen
          exact ih _ _ _ _ hs a2 (by show (l ++ [v]).length ≤ 100001; simp; omega)
        · cases hs
      · simp only [Option.bind_eq_some_iff] at hs
        obtain ⟨S2, h2, hs⟩ := hs
        cases hs
        rw [ns_close h2]
        exact ⟨h, hc⟩
end
end Go.Proofs.YtkbbhgipajhbnaaDoor
