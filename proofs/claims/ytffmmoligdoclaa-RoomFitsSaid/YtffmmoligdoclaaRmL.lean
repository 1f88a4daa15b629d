/- Room: what many share (pure). -/
import Derived.Test.YtffmmoligdoclaaRmJ
namespace Go.Proofs.Ytffmmoligdoclaa
open Go.RowKit
set_option linter.unusedVariables false
set_option linter.unusedSimpArgs false
/-- Who counts is said by a node's parent: the share is the sum of those. -/
theorem share_kids {l : List I12} {ns : List ByteArray} {s : ByteArray} (h : ∀ x ∈ l, (inB ns x.name && !underB l ns x) = decide (x.parent = s)) : ∀ k, k ≤ l.length → shareTo l ns k = kidS (l.take k) s
  | 0, _ => rfl
  | k + 1, hk => by
    have hx := List.getElem?_eq_getElem (show k < l.length by omega)
    rw [shareTo_step hx, kidS_step hx, share_kids h k (by omega), h _ (List.getElem_mem (show k < l.length by omega))]
    simp only [decide_eq_true_eq]
theorem under_up {l : List I12} (h : RT l) {x : I12} (hx : x ∈ l) (ns : List ByteArray) : underB l ns x = (upI l x.parent).any fun t => inB ns t := by
  unfold underB
  rw [up_cons h hx, List.tail_cons]
theorem share_all {l : List I12} (h : RT l) {ns : List ByteArray} (hn : ∀ x ∈ l, x.name ∈ ns) : shareV l ns = sumF (fun x => x.own) l := by
  unfold shareV
  rw [share_kids (s := ⟨#[]⟩) (fun x hx => ?_) _ (Nat.le_refl _), List.take_length, own_top h]
  rw [inB_iff.2 (hn x hx), Bool.true_and, under_up h hx]
  rcases (one_iff.1 (h.one x hx)).2.2.2.1 with e | ⟨y, hy, e⟩
  · rw [e, up_root h]; simp
  · have hne : x.parent ≠ ⟨#[]⟩ := by
      intro e2
      have := (one_iff.1 (h.one y hy)).1
      rw [e, e2] at this
      revert this; decide
    rw [decide_eq_false hne, ← e, up_cons h hy, List.any_cons, inB_iff.2 (hn y hy)]
    rfl
theorem share_none {l : List I12} {ns : List ByteArray} (hn : ∀ x ∈ l, x.name ∉ ns) : ∀ k, k ≤ l.length → shareTo l ns k = z3
  | 0, _ => rfl
  | k + 1, hk => by
    have hx := List.getElem?_eq_getElem (show k < l.length by omega)
    have hf : inB ns (l[k]'(by omega)).name = false := by
      rw [← Bool.not_eq_true, inB_iff]; exact hn _ (List.getElem_mem _)
    rw [shareTo_step hx, share_none hn k (by omega), hf]
    rfl
theorem up_par {l : List I12} : ∀ n s t, t ∈ upF l n s → (upF l n s).length < n → ∀ y z, look l t = some y → look l y.parent = some z → y.parent ∈ upF l n s
  | 0, _, _, _, h, _, _, _, _ => by simp at h
  | n + 1, s, t, ht, hl, y, z, hy, hz => by
    cases hs : look l s with
    | none => rw [upF_lnone hs] at ht; cases ht
    | some x =>
      rw [upF_lsome hs] at ht hl ⊢
      rw [List.length_cons] at hl
      have hn : 0 < n := by omega
      rcases List.mem_cons.1 ht with e | e
      · subst e
        rw [hs] at hy
        obtain rfl := Option.some.inj hy
        obtain ⟨m, rfl⟩ := Nat.exists_eq_add_of_lt hn
        rw [show 0 + m + 1 = m + 1 by omega, upF_lsome hz]
        simp
      · exact List.mem_cons_of_mem _ (up_par n x.parent t e (by omega) y z hy hz)
/-- Nobody is above itself. -/
theorem up_not {l : List I12} (h : RT l) {x : I12} (hx : x ∈ l) : x.name ∉ upI l x.parent := by
  have h2 := (two_iff.1 (h.two x hx)).2
  have hnd := upF_nodup (l.length + 1) x.name (by show (upI l x.name).length < _; omega)
  rw [show upF l (l.length + 1) x.name = upI l x.name from rfl, up_cons h hx, List.nodup_cons] at hnd
  exact hnd.1
theorem share_cond {l : List I12} (h : RT l) {x : I12} (hx : x ∈ l) {y : I12} (hy : y ∈ l) : (inB (belowI l x.name ++ [x.name, x.name]) y.name && !underB l (belowI l x.name ++ [x.name, x.name]) y) = decide (y.name = x.name) := by
  have hmem : ∀ t, t ∈ belowI l x.name ++ [x.name, x.name] ↔ (∃ z ∈ l, z.parent = x.name ∧ z.name = t) ∨ t = x.name := by
    intro t
    unfold belowI
    simp only [List.mem_append, List.mem_map, List.mem_filter, decide_eq_true_eq, List.mem_cons, List.not_mem_nil, or_false, or_self, and_assoc]
  rw [under_up h hy]
  by_cases e : y.name = x.name
  · have exy : y = x := by
      have h1 := look_mem h.srt.uq hy
      have h2 := look_mem h.srt.uq hx
      rw [e, h2] at h1
      exact (Option.some.inj h1).symm
    subst exy
    rw [inB_iff.2 ((hmem _).2 (Or.inr rfl)), decide_eq_true rfl, Bool.true_and]
    rw [show ((upI l y.parent).any fun t => inB (belowI l y.name ++ [y.name, y.name]) t) = false from ?_]
    · rfl
    rw [← Bool.not_eq_true, List.any_eq_true]
    rintro ⟨t, ht, hin⟩
    rcases (hmem t).1 (inB_iff.1 hin) with ⟨z, hz, hp, rfl⟩ | rfl
    · have hlt : (upI l y.parent).length < l.length + 1 := by
        have h2 := (two_iff.1 (h.two y hy)).2
        rw [up_cons h hy, List.length_cons] at h2
        omega
      have := up_par (l.length + 1) y.parent z.name ht hlt z y (look_mem h.srt.uq hz) (by rw [hp]; exact look_mem h.srt.uq hy)
      rw [hp] at this
      exact up_not h hy this
    · exact up_not h hy ht
  · rw [decide_eq_false e]
    by_cases hb : y.parent = x.name
    · rw [hb, up_cons h hx, List.any_cons, inB_iff.2 ((hmem _).2 (Or.inr rfl)), Bool.true_or, Bool.not_true, Bool.and_false]
    · have : inB (belowI l x.name ++ [x.name, x.name]) y.name = false := by
        rw [← Bool.not_eq_true, inB_iff, hmem]
        rintro (⟨z, hz, hp, e2⟩ | e2)
        · have h1 := look_mem h.srt.uq hy
          rw [← e2, look_mem h.srt.uq hz] at h1
          rw [Option.some.inj h1] at hp
          exact hb hp
        · exact e e2
      rw [this]; rfl
theorem share_one {l : List I12} {ns : List ByteArray} (hu : Uq l) {i : Nat} {x : I12} (hi : l[i]? = some x) (h : ∀ y ∈ l, (inB ns y.name && !underB l ns y) = decide (y.name = x.name)) : ∀ k, k ≤ l.length → shareTo l ns k = if i < k then x.sub else z3
  | 0, _ => rfl
  | k + 1, hk => by
    have hx := List.getElem?_eq_getElem (show k < l.length by omega)
    rw [shareTo_step hx, share_one hu hi h k (by omega), h _ (List.getElem_mem (show k < l.length by omega))]
    simp only [decide_eq_true_eq]
    by_cases e : (l[k]'(by omega)).name = x.name
    · have := uq_at hu hx hi e
      subst this
      rw [if_pos e, if_neg (by omega), if_pos (by omega), z_addV]
      rw [hx] at hi
      rw [Option.some.inj hi]
    · rw [if_neg e]
      have hne : i ≠ k := by
        rintro rfl
        rw [hx] at hi
        exact e (by rw [Option.some.inj hi])
      by_cases hik : i < k
      · rw [if_pos hik, if_pos (by omega)]
      · rw [if_neg hik, if_neg (by omega)]
/-- A node with those below it takes no more than alone. -/
theorem share_with {l : List I12} (h : RT l) {i : Nat} {x : I12} (hi : l[i]? = some x) : shareV l (belowI l x.name ++ [x.name, x.name]) = x.sub := by
  unfold shareV
  rw [share_one h.srt.uq hi (fun y hy => share_cond h (List.mem_of_getElem? hi) hy) _ (Nat.le_refl _), if_pos (List.getElem?_eq_some_iff.1 hi).1]
def OneB (l : List I12) : Prop := ∀ x ∈ l, x.name.size = 1
theorem OneB.create {l : List I12} (h : OneB l) {s : ByteArray} (p : ByteArray) (v : V3) (hs : s.size = 1) : OneB (createL l s p v) := by
  intro x hx
  unfold createL at hx
  rcases mem_ins.1 hx with rfl | hx
  · exact hs
  · rw [List.takeWhile_append_dropWhile] at hx
    exact h x hx
theorem OneB.adm {l : List I12} (h : OneB l) (s : ByteArray) (v : V3) : OneB (admL l s v) := by
  intro x hx
  unfold admL at hx
  obtain ⟨y, hy, rfl⟩ := List.mem_map.1 hx
  exact h y hy
theorem OneB.step {l : List I12} (h : OneB l) (n a b : Nat) : OneB (stepM l n a b) := by
  unfold stepM
  split
  · unfold admM
    split
    · exact (h.create _ _ rfl).adm _ _
    · exact h.create _ _ rfl
  · exact h
theorem make_one : ∀ (ns : List Nat) (l : List I12), OneB l → OneB (makeT ns l)
  | n :: a :: b :: r, l, h => by
    rw [makeT]
    split
    · exact make_one r _ (h.step n a b)
    · exact h
  | [], l, h => h
  | [n], l, h => h
  | [n, a], l, h => h
theorem share_noname {l : List I12} (h : OneB l) {s : ByteArray} (hs : s.size ≠ 1) : shareV l [s] = z3 :=
  share_none (fun x hx hm => by
    rw [List.mem_singleton] at hm
    exact hs (by rw [← hm]; exact h x hx)) _ (Nat.le_refl _)
theorem share_nil (l : List I12) : shareV l [] = z3 := share_none (fun x hx hm => by cases hm) _ (Nat.le_refl _)
theorem sumF_rev (f : I12 → V3) : ∀ l, sumF f l.reverse = sumF f l
  | [] => rfl
  | x :: r => by rw [List.reverse_cons, sumF_app, sumF_rev f r, sumF, sumF, sumF, addV_z, addV_comm]
theorem rev_at {l : List I12} {i : Nat} {x : I12} (hi : l[i]? = some x) : l.reverse[l.length - 1 - i]? = some x := by
  have h := (List.getElem?_eq_some_iff.1 hi).1
  rw [List.getElem?_reverse (by omega), show l.length - 1 - (l.length - 1 - i) = i by omega, hi]
end Go.Proofs.Ytffmmoligdoclaa
