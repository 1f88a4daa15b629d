/- Live trees: what is let in, node by node. -/
import Derived.Test.YtmpakgabehplbaaTrI
namespace Go.Proofs.Ytmpakgabehplbaa
open Go.RowKit
set_option linter.unusedVariables false
set_option linter.unusedSimpArgs false
/-- The node with v in what it and those below it have. -/
def admS (us : List ByteArray) (v : V3) (x : I12) : I12 := ⟨x.name, x.parent, x.lim, x.own, if x.name ∈ us then addV x.sub v else x.sub, x.ver⟩
theorem idx_map {f : I12 → I12} (hn : ∀ x, (f x).name = x.name) (l : List I12) (s : ByteArray) : iIdx (l.map f) s = iIdx l s := by
  unfold iIdx
  rw [List.findIdx?_map]
  congr 1
  funext x
  simp [Function.comp, hn]
theorem look_at {l : List I12} {t : ByteArray} {x : I12} (h : look l t = some x) : ∃ k, iIdx l t = some k ∧ l[k]? = some x := by
  rw [look_idx] at h
  cases hi : iIdx l t with
  | none => rw [hi] at h; cases h
  | some k => rw [hi] at h; exact ⟨k, rfl, h⟩
theorem up_known {l : List I12} : ∀ n s t, t ∈ upF l n s → ∃ x, look l t = some x
  | 0, s, t, h => by cases h
  | n + 1, s, t, h => by
    cases hs : look l s with
    | none => rw [upF_lnone hs] at h; cases h
    | some x =>
      rw [upF_lsome hs] at h
      rcases List.mem_cons.1 h with rfl | h
      · exact ⟨x, hs⟩
      · exact up_known n _ t h
theorem uq_at {l : List I12} (hu : Uq l) {i j : Nat} {x y : I12} (hi : l[i]? = some x) (hj : l[j]? = some y) (hn : x.name = y.name) : i = j := by
  unfold Uq at hu
  rw [List.pairwise_iff_getElem] at hu
  obtain ⟨h1, rfl⟩ := List.getElem?_eq_some_iff.1 hi
  obtain ⟨h2, rfl⟩ := List.getElem?_eq_some_iff.1 hj
  rcases Nat.lt_trichotomy i j with h | h | h
  · exact absurd hn (hu i j h1 h2 h)
  · exact h
  · exact absurd hn.symm (hu j i h2 h1 h)
theorem nodup_take {us : List ByteArray} (hn : us.Nodup) {i : Nat} {t : ByteArray} (hi : us[i]? = some t) : t ∉ us.take i := by
  intro h
  obtain ⟨j, hj, e⟩ := List.mem_iff_getElem.1 h
  rw [List.length_take] at hj
  rw [List.getElem_take] at e
  obtain ⟨h1, e1⟩ := List.getElem?_eq_some_iff.1 hi
  have := (List.getElem_inj (h₀ := by omega) (h₁ := h1) hn).1 (e.trans e1.symm)
  omega
theorem adm_next {l : List I12} (hu : Uq l) {us : List ByteArray} (hn : us.Nodup) {i k : Nat} {t : ByteArray} {x : I12} (v : V3) (hk : l[k]? = some x) (hx : x.name = t) (hi : us[i]? = some t) :
    (l.map (admS (us.take i) v)).set k ⟨x.name, x.parent, x.lim, x.own, addV x.sub v, x.ver⟩ = l.map (admS (us.take (i + 1)) v) := by
  have hnt := nodup_take hn hi
  have ht : us.take (i + 1) = us.take i ++ [t] := by rw [List.take_add_one, hi]; rfl
  apply List.ext_getElem?
  intro j
  rw [List.getElem?_set, List.getElem?_map]
  by_cases e : k = j
  · subst e
    have hkl := (List.getElem?_eq_some_iff.1 hk).1
    rw [if_pos rfl, if_pos (by rw [List.length_map]; exact hkl), List.getElem?_map, hk]
    show some _ = some (admS (us.take (i + 1)) v x)
    unfold admS
    rw [if_pos (by rw [ht, hx]; exact List.mem_append_right _ List.mem_cons_self)]
  · rw [if_neg e, List.getElem?_map]
    cases hj : l[j]? with
    | none => rfl
    | some y =>
      have hy : y.name ≠ t := fun e2 => e (uq_at hu hk hj (hx.trans e2.symm))
      show some (admS _ v y) = some (admS _ v y)
      unfold admS
      have : (y.name ∈ us.take (i + 1)) ↔ y.name ∈ us.take i := by rw [ht]; simp [hy]
      simp only [this]
theorem adm_at {l : List I12} {us : List ByteArray} (hn : us.Nodup) {i k : Nat} {x : I12} (v : V3) (hk : l[k]? = some x) (hi : us[i]? = some x.name) : (l.map (admS (us.take i) v))[k]? = some x := by
  rw [List.getElem?_map, hk]
  show some (admS _ v x) = some x
  unfold admS
  rw [if_neg (nodup_take hn hi)]
theorem adm_last {l : List I12} (hu : Uq l) {us : List ByteArray} {s : ByteArray} {k : Nat} {x : I12} (v : V3) (hk : l[k]? = some x) (hx : x.name = s) (hs : s ∈ us) :
    (l.map (admS us v)).set k ⟨x.name, x.parent, x.lim, addV x.own v, addV x.sub v, x.ver⟩ = l.map (admF us s v) := by
  apply List.ext_getElem?
  intro j
  rw [List.getElem?_set, List.getElem?_map]
  by_cases e : k = j
  · subst e
    have hkl := (List.getElem?_eq_some_iff.1 hk).1
    rw [if_pos rfl, if_pos (by rw [List.length_map]; exact hkl), List.getElem?_map, hk]
    show some _ = some (admF us s v x)
    unfold admF
    rw [if_pos hx, if_pos (by rw [hx]; exact hs)]
  · rw [if_neg e, List.getElem?_map]
    cases hj : l[j]? with
    | none => rfl
    | some y =>
      have hy : y.name ≠ s := fun e2 => e (uq_at hu hk hj (hx.trans e2.symm))
      show some (admS _ v y) = some (admF _ s v y)
      unfold admS admF
      rw [if_neg hy]
theorem adm_at2 {l : List I12} {us : List ByteArray} {k : Nat} {x : I12} (v : V3) (hk : l[k]? = some x) (hs : x.name ∈ us) : (l.map (admS us v))[k]? = some ⟨x.name, x.parent, x.lim, x.own, addV x.sub v, x.ver⟩ := by
  rw [List.getElem?_map, hk]
  show some (admS _ v x) = _
  unfold admS
  rw [if_pos hs]
/-- One node of a row, three cells of it, written. -/
theorem i12s_set (l : List I12) : ∀ (k r : Nat) (x y : I12) (c : Value), l[k]? = some x → r < 12 → y.cells = x.cells.set r c → i12s (l.set k y) = (i12s l).set (k * 12 + r) c := by
  intro k r x y c hk hr hy
  apply List.ext_getElem?
  intro j
  have hkl := (List.getElem?_eq_some_iff.1 hk).1
  rw [List.getElem?_set, i12s_len]
  by_cases hj : j < l.length * 12
  · have hd : j / 12 < l.length := by omega
    have e1 : (i12s (l.set k y))[j]? = ((l.set k y)[j / 12]'(by rw [List.length_set]; exact hd)).cells[j % 12]? := by
      have := i12s_at (l.set k y) (j / 12) (j % 12) _ (List.getElem?_eq_getElem (by rw [List.length_set]; exact hd)) (by omega)
      rwa [show j / 12 * 12 + j % 12 = j by omega] at this
    have e2 : (i12s l)[j]? = (l[j / 12]).cells[j % 12]? := by
      have := i12s_at l (j / 12) (j % 12) _ (List.getElem?_eq_getElem hd) (by omega)
      rwa [show j / 12 * 12 + j % 12 = j by omega] at this
    rw [e1, e2, List.getElem_set]
    have hx : l[k] = x := by rw [List.getElem?_eq_getElem hkl] at hk; exact Option.some.inj hk
    by_cases e : k = j / 12
    · rw [if_pos e, hy, List.getElem?_set]
      subst e
      rw [hx]
      by_cases e3 : r = j % 12
      · rw [if_pos e3, if_pos (by simp [I12.cells]; omega), if_pos (by omega), if_pos (by omega)]
      · rw [if_neg e3, if_neg (by omega)]
    · rw [if_neg e, if_neg (by omega)]
  · rw [List.getElem?_eq_none (by rw [i12s_len, List.length_set]; omega), List.getElem?_eq_none (by rw [i12s_len]; omega), if_neg (by omega)]
theorem IOwn.at {w : World} {B g n cap : Nat} {l : List I12} (h : IOwn w B l (.slice (some ⟨g, 0, none⟩) n cap)) {k : Nat} {x : I12} (hk : l[k]? = some x) : I12At w g (k * 12) x := by
  obtain ⟨ao, cp, e, -, -, hc⟩ := irow_of_own h
  obtain ⟨g', o', e2, h3⟩ := hc k x hk
  simp only [Value.slice.injEq] at e
  rw [← e.1] at e2
  simp only [Option.some.injEq, Addr.mk.injEq, and_true] at e2
  obtain ⟨rfl, rfl⟩ := e2
  rwa [Nat.zero_add] at h3
theorem iblk_at0 {w : World} {B g n cap : Nat} {l : List I12} (h : IOwn w B l (.slice (some ⟨g, 0, none⟩) n cap)) : B ≤ g ∧ ∃ cur, w.heap[g]? = some (.cells cur 52 (0, 0)) := by
  rcases h.2 with ⟨e, -⟩ | ⟨g', c', cur, e, hb, hg, -⟩
  · cases e
  · simp only [Value.slice.injEq, Option.some.injEq, Addr.mk.injEq, and_true] at e
    obtain ⟨rfl, -⟩ := e
    exact ⟨hb, cur, hg⟩
theorem IOwn.frz {w : World} {B g n cap : Nat} {l : List I12} (h : IOwn w B l (.slice (some ⟨g, 0, none⟩) n cap)) (j : Nat) : w.frozen? ⟨g, j, none⟩ = false := by
  obtain ⟨-, cur, hg⟩ := iblk_at0 h
  exact frozen_of_row w g j cur _ hg
theorem heap_set3 (w : World) (g a b c : Nat) (u v x : Value) {q : Nat} (hq : q ≠ g) : (((w.setCell ⟨g, a, none⟩ u).setCell ⟨g, b, none⟩ v).setCell ⟨g, c, none⟩ x).heap[q]? = w.heap[q]? := by
  rw [Below.heap_setCell _ _ _ _ hq, Below.heap_setCell _ _ _ _ hq, Below.heap_setCell _ _ _ _ hq]
theorem StrsO.far3 {w : World} {B : Nat} {v : Value} {xs : List ByteArray} (h : StrsO w B v xs) {g : Nat} (hg : v.ownBlock ≠ some g) (a b c : Nat) (u1 u2 u3 : Value) : StrsO (((w.setCell ⟨g, a, none⟩ u1).setCell ⟨g, b, none⟩ u2).setCell ⟨g, c, none⟩ u3) B v xs :=
  ownsRow_setCell_other (ownsRow_setCell_other (ownsRow_setCell_other h hg _) hg _) hg _
theorem iblk_at {w : World} {B g n cap : Nat} {l : List I12} (h : IOwn w B l (.slice (some ⟨g, 0, none⟩) n cap)) : B ≤ g ∧ ∃ cur, w.heap[g]? = some (.cells cur 52 (0, 0)) := by
  rcases h.2 with ⟨e, -⟩ | ⟨g', c', cur, e, hb, hg, -⟩
  · cases e
  · simp only [Value.slice.injEq, Option.some.injEq, Addr.mk.injEq, and_true] at e
    obtain ⟨rfl, -⟩ := e
    exact ⟨hb, cur, hg⟩
theorem str_apart {w : World} {B B' g n cap : Nat} {l : List I12} {v : Value} {xs : List ByteArray} (h : IOwn w B l (.slice (some ⟨g, 0, none⟩) n cap)) (hs : StrsO w B' v xs) : v.ownBlock ≠ some g := by
  intro e
  obtain ⟨-, cur, hg⟩ := iblk_at h
  rcases hs.2 with ⟨rfl, -⟩ | ⟨f, c, cur', rfl, hbf, hf, r⟩
  · cases e
  · obtain rfl : f = g := by
      have : (Value.slice (some ⟨f, 0, none⟩) xs.length c).ownBlock = some f := rfl
      rw [this] at e; exact Option.some.inj e
    rw [hf] at hg
    simp only [Option.some.injEq, Obj.cells.injEq] at hg
    exact absurd hg.2.1 (by decide)
theorem grown_apart {w : World} {B g n cap f : Nat} {l : List I12} {u : Value} {E : Int} (h : IOwn w B l (.slice (some ⟨g, 0, none⟩) n cap)) (hs : GBlk w f u E) : f ≠ g := by
  rintro rfl
  obtain ⟨-, cur, hg⟩ := iblk_at h
  unfold GBlk at hs
  rw [hs] at hg
  simp only [Option.some.injEq, Obj.cells.injEq] at hg
  exact absurd hg.2.1 (by decide)
theorem vec_apart {w : World} {B g n cap f : Nat} {l : List I12} {u : V3} (h : IOwn w B l (.slice (some ⟨g, 0, none⟩) n cap)) (hs : CBlk w f u) : f ≠ g := by
  rintro rfl
  obtain ⟨-, cur, hg⟩ := iblk_at h
  unfold CBlk at hs
  rw [hs] at hg
  simp only [Option.some.injEq, Obj.cells.injEq] at hg
  exact absurd hg.2.1 (by decide)
theorem IOwn.set3 {w : World} {B g k : Nat} {l : List I12} {n cap : Nat} (h : IOwn w B l (.slice (some ⟨g, 0, none⟩) n cap)) {x y : I12} (hk : l[k]? = some x) (r : Nat) (hr : r + 2 < 12) (a b c : Value)
    (hy : y.cells = ((x.cells.set r a).set (r + 1) b).set (r + 2) c) :
    IOwn (((w.setCell ⟨g, k * 12 + r, none⟩ a).setCell ⟨g, k * 12 + r + 1, none⟩ b).setCell ⟨g, k * 12 + r + 2, none⟩ c) B (l.set k y) (.slice (some ⟨g, 0, none⟩) n cap) := by
  obtain rfl : n = l.length := by
    rcases h.2 with ⟨e, h0⟩ | ⟨g', c', cur, e, -⟩
    · cases e
    · simp only [Value.slice.injEq] at e; exact e.2.1
  unfold IOwn at h ⊢
  have h1 := (h.stored (k * 12 + r) a).1
  have h2 := (h1.stored (k * 12 + r + 1) b).1
  have h3 := (h2.stored (k * 12 + r + 2) c).1
  have hx : ∀ i, i < 12 → (i12s l)[k * 12 + i]? = x.cells[i]? := fun i hi => i12s_at l k i x hk hi
  have e : i12s (l.set k y) = (((i12s l).set (k * 12 + r) a).set (k * 12 + r + 1) b).set (k * 12 + r + 2) c := by
    apply List.ext_getElem?
    intro j
    have hkl := (List.getElem?_eq_some_iff.1 hk).1
    by_cases hj : j < l.length * 12
    · have hd : j / 12 < l.length := by omega
      have e1 : (i12s (l.set k y))[j]? = ((l.set k y)[j / 12]'(by rw [List.length_set]; exact hd)).cells[j % 12]? := by
        have := i12s_at (l.set k y) (j / 12) (j % 12) _ (List.getElem?_eq_getElem (by rw [List.length_set]; exact hd)) (by omega)
        rwa [show j / 12 * 12 + j % 12 = j by omega] at this
      have e2 : (i12s l)[j]? = (l[j / 12]).cells[j % 12]? := by
        have := i12s_at l (j / 12) (j % 12) _ (List.getElem?_eq_getElem hd) (by omega)
        rwa [show j / 12 * 12 + j % 12 = j by omega] at this
      rw [e1, List.getElem_set]
      have hxe : l[k] = x := by rw [List.getElem?_eq_getElem hkl] at hk; exact Option.some.inj hk
      have hcl : x.cells.length = 12 := rfl
      by_cases e : k = j / 12
      · rw [if_pos e, hy]
        subst e
        simp only [List.getElem?_set, List.length_set, i12s_len, hcl]
        rw [e2, hxe]
        have g2 : (r + 2 = j % 12) ↔ (j / 12 * 12 + r + 2 = j) := by omega
        have g1 : (r + 1 = j % 12) ↔ (j / 12 * 12 + r + 1 = j) := by omega
        have g0 : (r = j % 12) ↔ (j / 12 * 12 + r = j) := by omega
        simp only [g2, g1, g0]
        have m2 : j % 12 < 12 := by omega
        simp only [m2, hj, if_true, show (r + 2 < 12) = True from by simp; omega, show (r + 1 < 12) = True from by simp; omega, show (r < 12) = True from by simp; omega]
        by_cases q2 : j / 12 * 12 + r + 2 = j
        · simp only [q2, if_true]; rw [if_pos (by omega)]
        · simp only [q2, if_false]
          by_cases q1 : j / 12 * 12 + r + 1 = j
          · simp only [q1, if_true]; rw [if_pos (by omega)]
          · simp only [q1, if_false]
            by_cases q0 : j / 12 * 12 + r = j
            · simp only [q0, if_true]; rw [if_pos (by omega)]
            · simp only [q0, if_false]
      · rw [if_neg e, List.getElem?_set_ne (by omega), List.getElem?_set_ne (by omega), List.getElem?_set_ne (by omega), e2]
    · rw [List.getElem?_eq_none (by rw [i12s_len, List.length_set]; omega), List.getElem?_eq_none (by simp only [List.length_set, i12s_len]; omega)]
  rw [e, List.length_set]
  exact h3
end Go.Proofs.Ytmpakgabehplbaa
