/- Package want: what is sorted is the document's Top (pure); rows from cells. -/
import Derived.Test.YtmiadhcmhnjmfaaWpZ
namespace Go.Proofs.Ytmiadhcmhnjmfaa
open Go.RowKit
set_option linter.unusedVariables false
set_option linter.unusedSimpArgs false
/-- One row in order, of the same members, is another one. -/
theorem row_uniq {α : Type} {R : α → α → Prop} : ∀ A B : List α, A.Pairwise R → B.Pairwise R → (∀ x, x ∈ A ↔ x ∈ B) → (∀ x y, x ∈ A → y ∈ A → R x y → ¬ R y x) → A = B
  | [], [], _, _, _, _ => rfl
  | [], b :: B, _, _, h, _ => by have := (h b).2 (List.mem_cons_self ..); cases this
  | a :: A, [], _, _, h, _ => by have := (h a).1 (List.mem_cons_self ..); cases this
  | a :: A, b :: B, pa, pb, h, as' => by
    obtain ⟨pa1, pa2⟩ := List.pairwise_cons.1 pa
    obtain ⟨pb1, pb2⟩ := List.pairwise_cons.1 pb
    have hab : a = b := by
      rcases List.mem_cons.1 ((h a).1 (List.mem_cons_self ..)) with e | h1
      · exact e
      · rcases List.mem_cons.1 ((h b).2 (List.mem_cons_self ..)) with e | h2
        · exact e.symm
        · exact absurd (pb1 a h1) (as' a b (List.mem_cons_self ..) (List.mem_cons_of_mem _ h2) (pa1 b h2))
    subst hab
    have ir : ∀ x, x ∈ a :: A → ¬ R x x := fun x hx hr => as' x x hx hx hr hr
    congr 1
    refine row_uniq A B pa2 pb2 (fun x => ⟨fun hx => ?_, fun hx => ?_⟩) (fun x y hx hy => as' x y (List.mem_cons_of_mem _ hx) (List.mem_cons_of_mem _ hy))
    · rcases List.mem_cons.1 ((h x).1 (List.mem_cons_of_mem _ hx)) with e | h1
      · subst e; exact absurd (pa1 x hx) (ir x (List.mem_cons_self ..))
      · exact h1
    · rcases List.mem_cons.1 ((h x).2 (List.mem_cons_of_mem _ hx)) with e | h1
      · subst e; exact absurd (pb1 x hx) (ir x (List.mem_cons_self ..))
      · exact h1
theorem insT_cons (l out : List W5) (a x : W5) : insW l (a :: out) x = if befW l x a = true then a :: insW l out x else x :: a :: out := by
  unfold insW
  by_cases h : befW l x a = true
  · simp [h]
  · simp [h]
theorem insT_mem (l : List W5) (x : W5) : ∀ (out : List W5) (y : W5), y ∈ insW l out x ↔ y = x ∨ y ∈ out
  | [], y => by simp [insW]
  | a :: out, y => by
    rw [insT_cons]
    split
    · rw [List.mem_cons, insT_mem l x out y, List.mem_cons]
      constructor
      · rintro (h | h | h)
        · exact .inr (.inl h)
        · exact .inl h
        · exact .inr (.inr h)
      · rintro (h | h | h)
        · exact .inr (.inl h)
        · exact .inl h
        · exact .inr (.inr h)
    · rw [List.mem_cons]
theorem insT_up (l : List W5) (x : W5) : ∀ (out : List W5), out.Pairwise (fun a b => befW l b a = true) → (∀ y ∈ out, befW l x y = true ∨ befW l y x = true) → (∀ y z, y ∈ out → z ∈ out → befW l y x = true → befW l z y = true → befW l z x = true) → (insW l out x).Pairwise (fun a b => befW l b a = true)
  | [], _, _, _ => by simp [insW]
  | a :: out, hp, ht, htr => by
    rw [insT_cons]
    obtain ⟨p1, p2⟩ := List.pairwise_cons.1 hp
    split
    · rename_i h
      refine List.pairwise_cons.2 ⟨fun b hb => ?_, insT_up l x out p2 (fun y hy => ht y (List.mem_cons_of_mem _ hy)) (fun y z hy hz => htr y z (List.mem_cons_of_mem _ hy) (List.mem_cons_of_mem _ hz))⟩
      rcases (insT_mem l x out b).1 hb with rfl | hb
      · exact h
      · exact p1 b hb
    · rename_i h
      have ha : befW l a x = true := (ht a (List.mem_cons_self ..)).resolve_left h
      refine List.pairwise_cons.2 ⟨fun b hb => ?_, hp⟩
      rcases List.mem_cons.1 hb with rfl | hb
      · exact ha
      · exact htr a b (List.mem_cons_self ..) (List.mem_cons_of_mem _ hb) ha (p1 b hb)
/-- How deep, as a number from nought on. -/
def dkW (l : List W5) (x : W5) : Nat := (depthL l x.name).toNat
theorem lt_trans' {α : Type} {lt : α → α → Bool} (H : OrdB lt) {x y z : α} (h1 : lt x y = true) (h2 : lt y z = true) : lt x z = true := by
  cases h : lt x z
  · have := H.le z x y h (H.asym _ _ h1)
    rw [h2] at this; cases this
  · rfl
section
variable {l : List W5}
theorem fit_dk (hf : FitW l) {i : Nat} {x : W5} (hx : l[i]? = some x) : (deepI l)[i]? = some (dkW l x) ∧ depthL l x.name = (dkW l x : Int) := by
  obtain ⟨k, hk, _, e⟩ := fit_deep hf hx
  have e2 : dkW l x = k := by unfold dkW; rw [e]; rfl
  rw [e2]; exact ⟨hk, e⟩
theorem bef_lt (hf : FitW l) {x y : W5} (hx : x ∈ l) (hy : y ∈ l) : befW l x y = ltD (y, dkW l y) (x, dkW l x) := by
  obtain ⟨i, hi, rfl⟩ := List.mem_iff_getElem.1 hx
  obtain ⟨j, hj, rfl⟩ := List.mem_iff_getElem.1 hy
  have e1 := (fit_dk hf (List.getElem?_eq_getElem hi)).2
  have e2 := (fit_dk hf (List.getElem?_eq_getElem hj)).2
  unfold befW ltD
  rw [e1, e2]
  by_cases h : dkW l l[j] = dkW l l[i]
  · rw [if_pos h, h]; simp
  · rw [if_neg h]
    have h2 : ((dkW l l[j] : Int) == (dkW l l[i] : Int)) = false := by simp; omega
    rw [h2, Bool.false_and, Bool.or_false]
theorem lt_total (hf : FitW l) {i j : Nat} {x y : W5} (hx : l[i]? = some x) (hy : l[j]? = some y) (hij : i ≠ j) (h : ltD (y, dkW l y) (x, dkW l x) = false) : ltD (x, dkW l x) (y, dkW l y) = true := by
  cases h2 : ltD (x, dkW l x) (y, dkW l y)
  · exfalso
    have ho := ownN_of (fit_ok hf).1
    unfold ltD at h h2
    by_cases e : dkW l x = dkW l y
    · rw [if_pos e] at h2
      rw [if_pos e.symm] at h
      have e3 := bl_tot _ _ h2 h
      rw [ByteArray.toList_eq, ByteArray.toList_eq] at e3
      exact hij (ho.inj i j x y hx hy (ByteArray.ext (Array.ext' e3)))
    · rw [if_neg e] at h2
      rw [if_neg (fun e2 => e e2.symm)] at h
      simp only [decide_eq_false_iff_not] at h h2
      omega
  · rfl
theorem topT (hf : FitW l) : ∀ i, i ≤ l.length → (∀ y, y ∈ topTo l i ↔ y ∈ l.take i) ∧ (topTo l i).Pairwise (fun a b => befW l b a = true)
  | 0, _ => ⟨fun y => by simp [topTo], by simp [topTo]⟩
  | i + 1, hi => by
    obtain ⟨ih1, ih2⟩ := topT hf i (by omega)
    have hx := List.getElem?_eq_getElem (show i < l.length by omega)
    have hxm := List.getElem_mem (show i < l.length by omega)
    rw [topTo_step hx]
    refine ⟨fun y => ?_, insT_up l _ _ ih2 (fun y hy => ?_) (fun y z hy hz h1 h2 => ?_)⟩
    · rw [insT_mem, ih1, List.take_add_one, hx]
      simp only [Option.toList_some, List.mem_append, List.mem_cons, List.not_mem_nil, or_false]
      exact Or.comm
    · have hy2 := (ih1 y).1 hy
      have hym := List.mem_of_mem_take hy2
      obtain ⟨k, hk, e⟩ := List.mem_iff_getElem.1 hy2
      rw [List.length_take] at hk
      rw [List.getElem_take] at e
      have hyk : l[k]? = some y := by rw [← e]; exact List.getElem?_eq_getElem (by omega)
      rw [bef_lt hf hxm hym, bef_lt hf hym hxm]
      cases h2 : ltD (y, dkW l y) (l[i], dkW l l[i])
      · exact .inr (lt_total hf hx hyk (by omega) h2)
      · exact .inl rfl
    · have hym := List.mem_of_mem_take ((ih1 y).1 hy)
      have hzm := List.mem_of_mem_take ((ih1 z).1 hz)
      rw [bef_lt hf hym hxm] at h1
      rw [bef_lt hf hzm hym] at h2
      rw [bef_lt hf hzm hxm]
      exact lt_trans' ordD h1 h2
/-- The list with its depths, as it comes. -/
def keyF (l : List W5) (k : Nat) : W5 × Nat := ((l[k]?).getD ⟨⟨#[]⟩, ⟨#[]⟩, z3⟩, ((deepI l)[k]?).getD 0)
theorem keyF_at (hf : FitW l) {k : Nat} {x : W5} (hx : l[k]? = some x) : keyF l k = (x, dkW l x) := by
  unfold keyF; rw [hx, (fit_dk hf hx).1]; rfl
/-- What is sorted is the document's Top. -/
theorem sorted_top (hf : FitW l) {f' : Nat → W5 × Nat} (hp : PermF 0 l.length (keyF l) f') (hs : SrtF ltD 0 l.length f') : (List.range l.length).map (fun k => (f' k).1) = topL l := by
  obtain ⟨σ, τ, h1, h2, h3, h4⟩ := hp
  have hlt : ∀ k, k < l.length → σ k < l.length := fun k hk => by
    by_cases c : σ k < l.length
    · exact c
    · have h5 := h3 (σ k) (by omega)
      have h6 := congrArg τ h5
      rw [h2, h2] at h6
      omega
  have hlt2 : ∀ k, k < l.length → τ k < l.length := fun k hk => by
    by_cases c : τ k < l.length
    · exact c
    · have h5 := h3 (τ k) (by omega)
      rw [h1] at h5
      omega
  have hval : ∀ k (hk : k < l.length), f' k = (l[σ k]'(hlt k hk), dkW l (l[σ k]'(hlt k hk))) := fun k hk => by
    rw [h4]; exact keyF_at hf (List.getElem?_eq_getElem (hlt k hk))
  obtain ⟨t1, t2⟩ := topT hf l.length (Nat.le_refl _)
  rw [topTo_all] at t1 t2
  rw [List.take_length] at t1
  refine row_uniq _ _ ?_ t2 (fun x => ?_) (fun x y hx hy r1 r2 => ?_)
  · rw [List.pairwise_iff_getElem]
    intro p q hp hq hpq
    rw [List.length_map, List.length_range] at hp hq
    rw [List.getElem_map, List.getElem_map, List.getElem_range, List.getElem_range]
    have e1 := hval p hp
    have e2 := hval q hq
    have hne : σ p ≠ σ q := fun e => by
      have := congrArg τ e
      rw [h2, h2] at this
      omega
    have h5 := hs p q (Nat.zero_le _) hpq hq
    rw [e1, e2] at h5
    rw [e1, e2]
    show befW l _ _ = true
    rw [bef_lt hf (List.getElem_mem _) (List.getElem_mem _)]
    exact lt_total hf (List.getElem?_eq_getElem (hlt p hp)) (List.getElem?_eq_getElem (hlt q hq)) hne h5
  · rw [t1, List.mem_map]
    constructor
    · rintro ⟨k, hk, rfl⟩
      rw [List.mem_range] at hk
      rw [hval k hk]
      exact List.getElem_mem _
    · intro hx
      obtain ⟨i, hi, rfl⟩ := List.mem_iff_getElem.1 hx
      refine ⟨τ i, List.mem_range.2 (hlt2 i hi), ?_⟩
      rw [hval (τ i) (hlt2 i hi)]
      simp only [h1]
  · have mem : ∀ z, z ∈ (List.range l.length).map (fun k => (f' k).1) → z ∈ l := fun z hz => by
      obtain ⟨k, hk, rfl⟩ := List.mem_map.1 hz
      rw [List.mem_range] at hk
      rw [hval k hk]
      exact List.getElem_mem _
    have hxm := mem x hx
    have hym := mem y hy
    rw [bef_lt hf hym hxm] at r1
    rw [bef_lt hf hxm hym] at r2
    have := ordD.asym _ _ r1
    rw [r2] at this; cases this
end
/-- A row that lies in a block known whole. -/
theorem own_of_cells {w : World} {B g cap : Nat} {A : List W5} {cur : Array Value} (hB : B ≤ g) (hg : w.heap[g]? = some (.cells cur 39 (0, 0))) (hs : cur.size = cap * 5) (hc : A.length ≤ cap) (hm : cap ≤ maxLen)
    (hat : ∀ k u, A[k]? = some u → W5At w g (k * 5) u) : w.ownsRow B 39 5 (.slice (some ⟨g, 0, none⟩) A.length cap) A.length (w5s A) := by
  refine ⟨w5s_len A, .inr ⟨g, cap, cur, rfl, hB, hg, hc, hm, hs, ?_⟩⟩
  refine List.ext_getElem? fun j => ?_
  rw [List.getElem?_take]
  by_cases hj : j < A.length * 5
  · rw [if_pos hj]
    have hk : j / 5 < A.length := by omega
    obtain ⟨c0, c1, c2, c3, c4⟩ := hat (j / 5) _ (List.getElem?_eq_getElem hk)
    rw [cell_of_row _ _ _ _ _ _ hg] at c0 c1 c2 c3 c4
    have hx := w5s_at A (j / 5) (j % 5) _ (List.getElem?_eq_getElem hk) (by omega)
    rw [show j / 5 * 5 + j % 5 = j by omega] at hx
    rw [hx, Array.getElem?_toList]
    have hr : j % 5 = 0 ∨ j % 5 = 1 ∨ j % 5 = 2 ∨ j % 5 = 3 ∨ j % 5 = 4 := by omega
    rcases hr with hr | hr | hr | hr | hr
    · rw [show j / 5 * 5 = j by omega] at c0; rw [c0, hr]; rfl
    · rw [show j / 5 * 5 + 1 = j by omega] at c1; rw [c1, hr]; rfl
    · rw [show j / 5 * 5 + 2 = j by omega] at c2; rw [c2, hr]; rfl
    · rw [show j / 5 * 5 + 3 = j by omega] at c3; rw [c3, hr]; rfl
    · rw [show j / 5 * 5 + 4 = j by omega] at c4; rw [c4, hr]; rfl
  · rw [if_neg hj, List.getElem?_eq_none (by rw [w5s_len]; omega)]
end Go.Proofs.Ytmiadhcmhnjmfaa
