/- Room: those of many who count, found from the root down (pure). -/
import Derived.Test.YtffmmoligdoclaaRmL
namespace Go.Proofs.Ytffmmoligdoclaa
open Go.RowKit
set_option linter.unusedVariables false
set_option linter.unusedSimpArgs false
/-- Those below somebody, of the first k. -/
def kidTo (l : List I12) (s : ByteArray) (k : Nat) : List I12 := (l.take k).filter fun x => decide (x.parent = s)
def kidI (l : List I12) (s : ByteArray) : List I12 := l.filter fun x => decide (x.parent = s)
theorem kidTo_all (l : List I12) (s : ByteArray) : kidTo l s l.length = kidI l s := by unfold kidTo kidI; rw [List.take_length]
theorem kidTo_step {l : List I12} {s : ByteArray} {k : Nat} {x : I12} (h : l[k]? = some x) : kidTo l s (k + 1) = if x.parent = s then kidTo l s k ++ [x] else kidTo l s k := by
  unfold kidTo
  rw [List.take_add_one, h, List.filter_append]
  by_cases e : x.parent = s
  · simp [e]
  · simp [e]
theorem kidTo_len (l : List I12) (s : ByteArray) (k : Nat) : (kidTo l s k).length ≤ k := by
  unfold kidTo
  refine Nat.le_trans (List.length_filter_le ..) ?_
  rw [List.length_take]; omega
theorem mem_kid {l : List I12} {s : ByteArray} {x : I12} : x ∈ kidI l s ↔ x ∈ l ∧ x.parent = s := by unfold kidI; simp
theorem uq_mem {l : List I12} (hu : Uq l) {x y : I12} (hx : x ∈ l) (hy : y ∈ l) (h : x.name = y.name) : x = y := by
  have e1 := look_mem hu hx
  have e2 := look_mem hu hy
  rw [h, e2] at e1
  exact (Option.some.inj e1).symm
/-- So far taken are P, waiting are Q. -/
structure HS (l : List I12) (ns : List ByteArray) (P Q : List I12) : Prop where
  sub : ∀ x ∈ P ++ Q, x ∈ l
  uq : Uq (P ++ Q)
  clean : ∀ x ∈ P ++ Q, underB l ns x = false
  top : ∀ x ∈ l, x.parent = ⟨#[]⟩ → x ∈ P ++ Q
  kid : ∀ x ∈ l, ∀ y ∈ P, x.parent = y.name → inB ns y.name = false → x ∈ P ++ Q
  from' : ∀ x ∈ P ++ Q, x.parent = ⟨#[]⟩ ∨ ∃ y ∈ P, inB ns y.name = false ∧ x.parent = y.name
theorem uq_filter {l : List I12} (hu : Uq l) (p : I12 → Bool) : Uq (l.filter p) := List.Pairwise.filter p hu
theorem HS.start {l : List I12} (h : RT l) (ns : List ByteArray) : HS l ns [] (kidI l ⟨#[]⟩) := by
  refine ⟨fun x hx => (mem_kid.1 hx).1, uq_filter h.srt.uq _, fun x hx => ?_, fun x hx he => mem_kid.2 ⟨hx, he⟩, fun x hx y hy => by (cases hy), fun x hx => .inl (mem_kid.1 hx).2⟩
  obtain ⟨h1, h2⟩ := mem_kid.1 hx
  rw [under_up h h1, h2, up_root h]
  rfl
theorem HS.take {l : List I12} {ns : List ByteArray} {P Q : List I12} {y : I12} (h : HS l ns P (y :: Q)) (hy : inB ns y.name = true) : HS l ns (P ++ [y]) Q := by
  have e : P ++ [y] ++ Q = P ++ y :: Q := by simp
  refine ⟨by rw [e]; exact h.sub, by rw [e]; exact h.uq, by rw [e]; exact h.clean, by rw [e]; exact h.top, ?_, ?_⟩
  · rw [e]
    intro x hx z hz hp hn
    rw [List.mem_append, List.mem_singleton] at hz
    rcases hz with hz | rfl
    · exact h.kid x hx z hz hp hn
    · rw [hy] at hn; cases hn
  · rw [e]
    intro x hx
    rcases h.from' x hx with h1 | ⟨z, hz, h2⟩
    · exact .inl h1
    · exact .inr ⟨z, List.mem_append_left _ hz, h2⟩
theorem name_ne' {l : List I12} (h : RT l) {x : I12} (hx : x ∈ l) : x.name ≠ ⟨#[]⟩ := name_ne (one_iff.1 (h.one x hx)).1
theorem HS.grow {l : List I12} (hr : RT l) {ns : List ByteArray} {P Q : List I12} {y : I12} (h : HS l ns P (y :: Q)) (hy : inB ns y.name = false) : HS l ns (P ++ [y]) (Q ++ kidI l y.name) := by
  have e : P ++ [y] ++ (Q ++ kidI l y.name) = (P ++ y :: Q) ++ kidI l y.name := by simp
  have yl : y ∈ l := h.sub y (by simp)
  have yc : underB l ns y = false := h.clean y (by simp)
  have fresh : ∀ x ∈ P ++ y :: Q, x.parent ≠ y.name := by
    intro x hx hp
    rcases h.from' x hx with h1 | ⟨z, hz, -, h3⟩
    · exact name_ne' hr yl (hp.symm.trans h1)
    · have hu := h.uq
      unfold Uq at hu
      rw [List.pairwise_append] at hu
      exact hu.2.2 z hz y List.mem_cons_self (h3.symm.trans hp)
  refine ⟨?_, ?_, ?_, ?_, ?_, ?_⟩ <;> rw [e]
  · intro x hx
    rw [List.mem_append] at hx
    rcases hx with hx | hx
    · exact h.sub x hx
    · exact (mem_kid.1 hx).1
  · show List.Pairwise _ _
    rw [List.pairwise_append]
    refine ⟨h.uq, uq_filter hr.srt.uq _, fun a ha b hb hn => ?_⟩
    obtain ⟨hb1, hb2⟩ := mem_kid.1 hb
    have := uq_mem hr.srt.uq (h.sub a ha) hb1 hn
    exact fresh a ha (by rw [this]; exact hb2)
  · intro x hx
    rw [List.mem_append] at hx
    rcases hx with hx | hx
    · exact h.clean x hx
    · obtain ⟨h1, h2⟩ := mem_kid.1 hx
      rw [under_up hr h1, h2, up_cons hr yl, List.any_cons, hy, Bool.false_or]
      rw [under_up hr yl] at yc
      exact yc
  · exact fun x hx hp => List.mem_append_left _ (h.top x hx hp)
  · intro x hx z hz hp hn
    rw [List.mem_append, List.mem_singleton] at hz
    rw [List.mem_append]
    rcases hz with hz | rfl
    · exact .inl (h.kid x hx z hz hp hn)
    · exact .inr (mem_kid.2 ⟨hx, hp⟩)
  · intro x hx
    rw [List.mem_append] at hx
    rcases hx with hx | hx
    · rcases h.from' x hx with h1 | ⟨z, hz, h2⟩
      · exact .inl h1
      · exact .inr ⟨z, List.mem_append_left _ hz, h2⟩
    · exact .inr ⟨y, by simp, hy, (mem_kid.1 hx).2⟩
/-- Sums of some of them. -/
theorem sum_one (g : I12 → V3) {y : I12} : ∀ {l : List I12}, Uq l → y ∈ l → sumF (fun x => if y.name = x.name then g x else z3) l = g y
  | [], _, h => by cases h
  | x :: r, hu, hy => by
    unfold Uq at hu
    rw [List.pairwise_cons] at hu
    rw [sumF]
    by_cases e : y.name = x.name
    · have : y = x := by
        rcases List.mem_cons.1 hy with h | h
        · exact h
        · exact absurd e.symm (hu.1 y h)
      subst this
      rw [if_pos rfl, sumF_congr (g := fun _ => z3) (fun z hz => if_neg (hu.1 z hz)), sumF_z, addV_z]
    · rw [if_neg e, z_addV]
      rcases List.mem_cons.1 hy with h | h
      · exact absurd (by rw [h]) e
      · exact sum_one g hu.2 h
theorem sum_some (g : I12 → V3) {l : List I12} (hl : Uq l) : ∀ {P : List I12}, Uq P → (∀ x ∈ P, x ∈ l) → sumF g P = sumF (fun x => if (P.any fun y => decide (y.name = x.name)) = true then g x else z3) l
  | [], _, _ => ((sumF_congr (g := fun _ => z3) (fun z hz => rfl)).trans (sumF_z l)).symm
  | y :: P, hu, hs => by
    unfold Uq at hu
    rw [List.pairwise_cons] at hu
    rw [sumF, sum_some g hl hu.2 (fun x hx => hs x (List.mem_cons_of_mem _ hx)), ← sum_one g hl (hs y List.mem_cons_self), ← sumF_add]
    refine sumF_congr fun x hx => ?_
    by_cases e : y.name = x.name
    · have h2 : (P.any fun z => decide (z.name = x.name)) = false := by
        rw [List.any_eq_false]
        intro z hz
        have := hu.1 z hz
        rw [decide_eq_true_eq]
        exact fun e2 => this (e.trans e2.symm)
      rw [if_pos e, if_neg (by rw [h2]; decide), if_pos (by simp [e]), addV_z]
    · rw [if_neg e, z_addV]
      have : (y :: P).any (fun z => decide (z.name = x.name)) = P.any fun z => decide (z.name = x.name) := by
        rw [List.any_cons, decide_eq_false e, Bool.false_or]
      rw [this]
theorem sum_le (l : List I12) (p : I12 → Bool) : (sumF (fun x => if p x = true then ⟨1, 0, 0⟩ else z3) l).c ≤ (l.length : Int) := by
  induction l with
  | nil => simp [sumF, z3]
  | cons x r ih =>
    rw [sumF]
    simp only [addV, List.length_cons]
    split
    · simp only; omega
    · have hz : z3.c = 0 := rfl
      rw [hz]; omega
theorem some_len {l P : List I12} (hl : Uq l) (hu : Uq P) (hs : ∀ x ∈ P, x ∈ l) : P.length ≤ l.length := by
  have e := sum_some (fun _ => ⟨1, 0, 0⟩) hl hu hs
  rw [ones_len] at e
  have h2 := sum_le l (fun x => P.any fun y => decide (y.name = x.name))
  rw [← e] at h2
  simp only at h2
  omega
theorem HS.len {l : List I12} (hr : RT l) {ns : List ByteArray} {P Q : List I12} (h : HS l ns P Q) : P.length + Q.length ≤ l.length := by
  rw [← List.length_append]
  exact some_len hr.srt.uq h.uq h.sub
/-- Those of the taken that are asked for. -/
def headL (ns : List ByteArray) (P : List I12) : List I12 := P.filter fun x => inB ns x.name
theorem headL_yes {ns : List ByteArray} {P : List I12} {y : I12} (h : inB ns y.name = true) : headL ns (P ++ [y]) = headL ns P ++ [y] := by unfold headL; rw [List.filter_append]; simp [h]
theorem headL_no {ns : List ByteArray} {P : List I12} {y : I12} (h : inB ns y.name = false) : headL ns (P ++ [y]) = headL ns P := by unfold headL; rw [List.filter_append]; simp [h]
theorem headL_len (ns : List ByteArray) (P : List I12) : (headL ns P).length ≤ P.length := List.length_filter_le ..
theorem share_fold (l : List I12) (ns : List ByteArray) : ∀ k, k ≤ l.length → shareTo l ns k = sumF (fun x => if (inB ns x.name && !underB l ns x) = true then x.sub else z3) (l.take k)
  | 0, _ => rfl
  | k + 1, hk => by
    have hx := List.getElem?_eq_getElem (show k < l.length by omega)
    rw [shareTo_step hx, sumF_step hx, share_fold l ns k (by omega)]
    by_cases e : (inB ns l[k].name && !underB l ns l[k]) = true
    · rw [if_pos e, if_pos e]
    · rw [if_neg e, if_neg e, addV_z]
theorem sum_filter (g : I12 → V3) (p : I12 → Bool) : ∀ P, sumF g (P.filter p) = sumF (fun x => if p x = true then g x else z3) P
  | [] => rfl
  | x :: r => by
    rw [List.filter_cons, sumF]
    by_cases h : p x = true
    · rw [if_pos h, if_pos h, sumF, sum_filter g p r]
    · rw [if_neg h, if_neg h, z_addV, sum_filter g p r]
/-- Who was not reached is below somebody who was asked for. -/
theorem HS.under {l : List I12} (hr : RT l) {ns : List ByteArray} {P : List I12} (h : HS l ns P []) : ∀ n, ∀ x ∈ l, (upI l x.name).length ≤ n → (P.any fun y => decide (y.name = x.name)) = false → underB l ns x = true
  | 0, x, hx, hn, _ => by
    rw [up_cons hr hx, List.length_cons] at hn; omega
  | n + 1, x, hx, hn, ha => by
    have ex : x ∉ P := by
      intro hm
      rw [List.any_eq_false] at ha
      exact ha x hm (decide_eq_true rfl)
    rw [under_up hr hx]
    rcases (one_iff.1 (hr.one x hx)).2.2.2.1 with e | ⟨y, hy, e⟩
    · exact absurd (by simpa using h.top x hx e) ex
    · rw [← e, up_cons hr hy, List.any_cons]
      cases hb : inB ns y.name with
      | true => rfl
      | false =>
        rw [Bool.false_or, ← under_up hr hy]
        refine HS.under hr h n y hy ?_ ?_
        · rw [up_cons hr hx, List.length_cons, ← e] at hn; omega
        · rw [List.any_eq_false]
          intro z hz hzn
          rw [decide_eq_true_eq] at hzn
          exact ex (by simpa using h.kid x hx z hz (by rw [← e, hzn]) (by rw [hzn]; exact hb))
theorem HS.done {l : List I12} (hr : RT l) {ns : List ByteArray} {P : List I12} (h : HS l ns P []) : sumF (fun x => x.sub) (headL ns P) = shareV l ns := by
  have hu : Uq P := by have := h.uq; rwa [List.append_nil] at this
  have hs : ∀ x ∈ P, x ∈ l := fun x hx => h.sub x (List.mem_append_left _ hx)
  unfold headL shareV
  rw [sum_filter, sum_some _ hr.srt.uq hu hs, share_fold l ns _ (Nat.le_refl _), List.take_length]
  refine sumF_congr fun x hx => ?_
  cases ha : P.any (fun y => decide (y.name = x.name)) with
  | true =>
    rw [if_pos rfl]
    obtain ⟨y, hy, hyn⟩ := List.any_eq_true.1 ha
    rw [decide_eq_true_eq] at hyn
    have : y = x := uq_mem hr.srt.uq (hs y hy) hx hyn
    subst this
    rw [h.clean y (List.mem_append_left _ hy), Bool.not_false, Bool.and_true]
  | false =>
    rw [if_neg (by decide), h.under hr _ x hx (Nat.le_refl _) ha, Bool.not_true, Bool.and_false, if_neg (by decide)]
theorem head_may {l : List I12} (hr : RT l) {ns : List ByteArray} {P : List I12} (h : HS l ns P []) : ∀ x ∈ headL ns P, mayV x.sub = true := fun x hx => hr.may x (h.sub x (List.mem_append_left _ (List.mem_filter.1 hx).1))
theorem subF_up {l : List I12} (h : ∀ y ∈ l, mayV y.sub = true) : ∀ k, k ≤ l.length → (sumF (fun x => x.sub) (l.take k)).Upto ((k : Int) * 1099511627776)
  | 0, _ => by simp [sumF, V3.Upto, z3]
  | k + 1, hk => by
    have ih := subF_up h k (by omega)
    have hx := List.getElem?_eq_getElem (show k < l.length by omega)
    have hb := may_bounds (h _ (List.getElem_mem (show k < l.length by omega)))
    rw [sumF_step hx]
    unfold V3.Upto addV at *
    simp only
    omega
end Go.Proofs.Ytffmmoligdoclaa
