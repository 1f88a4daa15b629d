/- Whether a rising row of names has a name: whether it was among them. -/
import Derived.Test.YtlkdicabmikhkaaGreatDoorLiK
namespace Go.Proofs.YtlkdicabmikhkaaGreatDoor
open Go.RowKit Go.Sort
set_option linter.unusedVariables false
set_option linter.unusedSimpArgs false
theorem upTo_mem (d : Array (List UInt8)) : ∀ (m j : Nat), j < m → d[j]! ∈ Lib.compactUpTo d m := by
  intro m
  induction m with
  | zero => intro j h; omega
  | succ m ih =>
    intro j h
    rw [Lib.compactUpTo_succ]
    by_cases hj : j < m
    · exact List.mem_append_left _ (ih j hj)
    · obtain rfl : j = m := by omega
      by_cases hk : Lib.keeps d j
      · rw [if_pos hk]; simp
      · have h0 : ¬ j = 0 := fun e => hk (by simp [Lib.keeps, e])
        have he : d[j]! = d[j - 1]! := Classical.byContradiction fun e => hk (Lib.keeps_pos e)
        rw [he]
        exact List.mem_append_left _ (ih (j - 1) (by omega))
theorem compact_sub (zs : List (List UInt8)) : (Lib.compact zs).Sublist zs := by
  unfold Lib.compact Lib.compactUpTo
  have h1 : (((List.range zs.length).filter (Lib.keeps zs.toArray)).map (zs.toArray[·]!)).Sublist ((List.range zs.length).map (zs.toArray[·]!)) := List.filter_sublist.map _
  have h2 := Lib.range_map_get zs.toArray
  simp only [List.size_toArray] at h2
  rw [h2] at h1
  exact h1
theorem compact_mem {zs : List (List UInt8)} {x : List UInt8} : x ∈ Lib.compact zs ↔ x ∈ zs := by
  refine ⟨fun h => (compact_sub zs).subset h, fun h => ?_⟩
  obtain ⟨j, hj⟩ := List.getElem?_of_mem h
  obtain ⟨h1, h2⟩ := List.getElem?_eq_some_iff.1 hj
  have := upTo_mem zs.toArray zs.length j h1
  have e : zs.toArray[j]! = x := by rw [← h2]; simp [h1]
  rw [e] at this
  exact this
theorem sortB_mem {zs : List (List UInt8)} {x : List UInt8} : x ∈ sortB zs ↔ x ∈ zs := by unfold sortB; exact List.mem_mergeSort
theorem sortB_up (zs : List (List UInt8)) : (sortB zs).Pairwise (fun a b => a ≤ b) := by
  have h := List.pairwise_mergeSort (le := fun x y : List UInt8 => decide (x ≤ y)) (fun a b c h1 h2 => by
    simp only [decide_eq_true_eq] at h1 h2 ⊢
    exact List.le_trans h1 h2) (fun a b => by
    simp only [Bool.or_eq_true, decide_eq_true_eq]
    exact List.le_total a b) zs
  unfold sortB
  exact h.imp fun h => by simpa using h
theorem data_inj {x y : ByteArray} (h : x.data.toList = y.data.toList) : x = y := ByteArray.ext (Array.ext' h)
theorem bytesOf_mem {xs : List ByteArray} {x : ByteArray} : x.data.toList ∈ bytesOf xs ↔ x ∈ xs := by
  unfold bytesOf
  refine ⟨fun h => ?_, fun h => List.mem_map.2 ⟨x, h, rfl⟩⟩
  obtain ⟨y, hy, e⟩ := List.mem_map.1 h
  rw [← data_inj e]
  exact hy
theorem textsOf_mem {ls : List (List UInt8)} {x : ByteArray} : x ∈ textsOf ls ↔ x.data.toList ∈ ls := by
  unfold textsOf
  refine ⟨fun h => ?_, fun h => List.mem_map.2 ⟨_, h, rfl⟩⟩
  obtain ⟨y, hy, rfl⟩ := List.mem_map.1 h
  exact hy
theorem namesU_mem {xs : List ByteArray} {x : ByteArray} : x ∈ namesU xs ↔ x ∈ xs := by
  unfold namesU
  rw [textsOf_mem, compact_mem, sortB_mem, bytesOf_mem]
theorem namesU_up (xs : List ByteArray) : (namesU xs).Pairwise (fun a b => a.data.toList ≤ b.data.toList) := by
  unfold namesU textsOf
  rw [List.pairwise_map]
  exact (sortB_up _).sublist (compact_sub _)
theorem bsGo_congr {l1 l2 : Nat → Bool} : ∀ (f lo hi : Nat), (∀ t, t < hi → l1 t = l2 t) → Lib.bsGo l1 f lo hi = Lib.bsGo l2 f lo hi
  | 0, lo, hi, _ => rfl
  | f + 1, lo, hi, h => by
    unfold Lib.bsGo
    by_cases hl : lo < hi
    · rw [if_pos hl, if_pos hl, h _ (by omega), bsGo_congr f _ hi h, bsGo_congr f lo _ fun t ht => h t (by omega)]
    · rw [if_neg hl, if_neg hl]
theorem used_iff {ns : List ByteArray} (h : ns.Pairwise (fun a b => a.data.toList ≤ b.data.toList)) (x : ByteArray) : usedB ns x = true ↔ x ∈ ns := by
  have hless : ∀ y : ByteArray, Op.bytesLess y.toList x.toList = decide (y.data.toList < x.data.toList) := fun y => by rw [bytesLess_eq, Lib.toList_data, Lib.toList_data]
  have hk : ∃ k, k ≤ ns.length ∧ (∀ t, t < k → ∀ y, ns[t]? = some y → y.data.toList < x.data.toList) ∧ (∀ t, k ≤ t → ∀ y, ns[t]? = some y → ¬ y.data.toList < x.data.toList) := by
    clear hless
    induction ns with
    | nil => exact ⟨0, by simp, fun t h => by omega, fun t _ y h => by simp at h⟩
    | cons a ns ih =>
      obtain ⟨k, k0, k1, k2⟩ := ih (List.pairwise_cons.1 h).2
      by_cases ha : a.data.toList < x.data.toList
      · refine ⟨k + 1, by simp; omega, fun t ht y hy => ?_, fun t ht y hy => ?_⟩
        · cases t with
          | zero => simp at hy; rw [← hy]; exact ha
          | succ t => exact k1 t (by omega) y (by simpa using hy)
        · cases t with
          | zero => omega
          | succ t => exact k2 t (by omega) y (by simpa using hy)
      · refine ⟨0, by simp, fun t ht => by omega, fun t _ y hy => ?_⟩
        cases t with
        | zero => simp at hy; rw [← hy]; exact ha
        | succ t =>
          have hm : y ∈ ns := List.mem_of_getElem? (by simpa using hy)
          exact fun hlt => ha (List.lt_of_le_of_lt ((List.pairwise_cons.1 h).1 y hm) hlt)
  obtain ⟨k, k0, k1, k2⟩ := hk
  have hI : Lib.bsGo (lessAt (fun j => ns.getD j ⟨#[]⟩) x) ns.length 0 ns.length = k := by
    rw [bsGo_congr (l2 := fun t => decide (t < k)) ns.length 0 ns.length fun t ht => ?_]
    · exact Lib.bsGo_spec _ k (fun t ht => by simpa using ht) (fun t ht => by simpa using ht) _ _ _ (by omega) (by omega) k0
    · have hg : ns[t]? = some ns[t] := List.getElem?_eq_getElem ht
      show Op.bytesLess (ns.getD t ⟨#[]⟩).toList x.toList = decide (t < k)
      rw [show ns.getD t ⟨#[]⟩ = ns[t] by simp [ht], hless]
      by_cases htk : t < k
      · rw [decide_eq_true (k1 t htk _ hg), decide_eq_true htk]
      · rw [decide_eq_false (k2 t (by omega) _ hg), decide_eq_false htk]
  unfold usedB hasBS
  rw [hI, decide_eq_true_eq]
  refine ⟨fun h => ?_, fun hx => ?_⟩
  · rw [← h.2]
    show ns.getD k ⟨#[]⟩ ∈ ns
    rw [show ns.getD k ⟨#[]⟩ = ns[k]'h.1 by simp [h.1]]
    exact List.getElem_mem _
  · obtain ⟨j, hj⟩ := List.getElem?_of_mem hx
    have hjk : k ≤ j := Classical.byContradiction fun e => List.lt_irrefl _ (k1 j (by omega) x hj)
    have hjn := (List.getElem?_eq_some_iff.1 hj).1
    have hkn : k < ns.length := by omega
    refine ⟨hkn, ?_⟩
    have hg : ns[k]? = some ns[k] := List.getElem?_eq_getElem hkn
    show ns.getD k ⟨#[]⟩ = x
    rw [show ns.getD k ⟨#[]⟩ = ns[k] by simp [hkn]]
    have h1 : ¬ ns[k].data.toList < x.data.toList := k2 k (Nat.le_refl _) _ hg
    have h2 : ns[k].data.toList ≤ x.data.toList := by
      by_cases e : k = j
      · subst e
        rw [hg] at hj
        simp at hj
        rw [hj]
        exact List.le_refl _
      · have := (List.pairwise_iff_getElem.1 h) k j hkn hjn (by omega)
        rw [show ns[j] = x by obtain ⟨_, e⟩ := List.getElem?_eq_some_iff.1 hj; exact e] at this
        exact this
    exact data_inj (List.le_antisymm h2 (by simpa using h1))
theorem used_names (xs : List ByteArray) (x : ByteArray) : usedB (namesU xs) x = true ↔ x ∈ xs := (used_iff (namesU_up xs) x).trans namesU_mem
theorem refsG_mem {ns : List NodeL} {x : ByteArray} : x ∈ refsG ns ↔ x ∈ rawG ns := namesU_mem (xs := rawG ns)
end Go.Proofs.YtlkdicabmikhkaaGreatDoor
