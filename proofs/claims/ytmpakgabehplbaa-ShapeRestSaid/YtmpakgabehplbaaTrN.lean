/- Package tree: what its Right asks, part by part, is what is right (pure). -/
import Derived.Test.YtmpakgabehplbaaTrI
import Derived.Test.YtmpakgabehplbaaTrM
namespace Go.Proofs.Ytmpakgabehplbaa
open Go.RowKit
set_option linter.unusedVariables false
set_option linter.unusedSimpArgs false
theorem nameAt_at {l : List I12} {i : Nat} {x : I12} (h : l[i]? = some x) : nameAt l i = x.name := by unfold nameAt; rw [h]
theorem size_pos {s : ByteArray} : s = ⟨#[]⟩ ↔ s.size = 0 := by
  constructor
  · rintro rfl; rfl
  · intro h
    cases s with
    | mk d =>
      have : d.size = 0 := h
      rw [Array.eq_empty_of_size_eq_zero this]
theorem nameB_size (s : ByteArray) : nameB s = (decide (1 ≤ s.size) && decide (s.size ≤ 24)) := by
  unfold nameB
  congr 1
  rw [← decide_not]
  exact decide_eq_decide.2 (by rw [size_pos]; omega)
theorem nats_of {xs : List Int} (h : ∀ x ∈ xs, 0 ≤ x ∧ x ≤ 255) : ∃ ns : List Nat, xs = ns.map (fun n : Nat => (n : Int)) ∧ ∀ x ∈ ns, x ≤ 255 := by
  refine ⟨xs.map Int.toNat, ?_, fun x hx => ?_⟩
  · rw [List.map_map]
    conv => lhs; rw [← List.map_id xs]
    refine List.map_congr_left fun x hx => ?_
    have := h x hx
    show x = ((x.toNat : Nat) : Int)
    omega
  · obtain ⟨y, hy, rfl⟩ := List.mem_map.1 hx
    have := h y hy; omega
theorem name_24 {s : ByteArray} (h : nameB s = true) : s.size ≤ 24 := by
  rw [nameB_size, Bool.and_eq_true, decide_eq_true_eq, decide_eq_true_eq] at h
  exact h.2
theorem RT.short {l : List I12} (h : RT l) : ∀ u ∈ l, u.name.size ≤ 1000000 ∧ u.parent.size ≤ 1000000 := by
  intro u hu
  obtain ⟨g1, -, -, g4, -⟩ := one_iff.1 (h.one u hu)
  refine ⟨by have := name_24 g1; omega, ?_⟩
  rcases g4 with e | ⟨y, hy, e⟩
  · rw [e]; decide
  · rw [← e]
    obtain ⟨k1, -⟩ := one_iff.1 (h.one y hy)
    have := name_24 k1; omega
theorem sumF_app (f : I12 → V3) (a b : List I12) : sumF f (a ++ b) = addV (sumF f a) (sumF f b) := by
  induction a with
  | nil => exact (z_addV _).symm
  | cons x r ih => rw [List.cons_append, sumF, sumF, ih, addV_assoc]
theorem sumF_step {f : I12 → V3} {l : List I12} {k : Nat} {x : I12} (hx : l[k]? = some x) : sumF f (l.take (k + 1)) = addV (sumF f (l.take k)) (f x) := by
  rw [List.take_add_one, hx, sumF_app]
  simp only [Option.toList_some, sumF, addV_z]
theorem kidS_step {s : ByteArray} {l : List I12} {k : Nat} {x : I12} (hx : l[k]? = some x) : kidS (l.take (k + 1)) s = if x.parent = s then addV (kidS (l.take k) s) x.sub else kidS (l.take k) s := by
  rw [List.take_add_one, hx, kid_app]
  simp only [Option.toList_some, kidS]
  split
  · rw [addV_z]
  · rw [addV_z]
theorem sumF_up {l : List I12} (h : ∀ y ∈ l, mayV y.own = true) : ∀ k, k ≤ l.length → (sumF (fun x => x.own) (l.take k)).Upto ((k : Int) * 1099511627776)
  | 0, _ => by simp [sumF, V3.Upto, z3]
  | k + 1, hk => by
    have ih := sumF_up h k (by omega)
    have hx := List.getElem?_eq_getElem (show k < l.length by omega)
    have hb := may_bounds (h _ (List.getElem_mem (show k < l.length by omega)))
    rw [sumF_step hx]
    unfold V3.Upto addV at *
    simp only
    omega
theorem kidS_up {s : ByteArray} {l : List I12} (h : ∀ y ∈ l, mayV y.sub = true) : ∀ k, k ≤ l.length → (kidS (l.take k) s).Upto ((k : Int) * 1099511627776)
  | 0, _ => by simp [kidS, V3.Upto, z3]
  | k + 1, hk => by
    have ih := kidS_up (s := s) h k (by omega)
    have hx := List.getElem?_eq_getElem (show k < l.length by omega)
    have hb := may_bounds (h _ (List.getElem_mem (show k < l.length by omega)))
    rw [kidS_step hx]
    split
    · unfold V3.Upto addV at *
      simp only
      omega
    · unfold V3.Upto at *
      omega
theorem bool_of (p : Prop) : ∃ b : Bool, b = true ↔ p := by
  by_cases h : p
  · exact ⟨true, by simp [h]⟩
  · exact ⟨false, by simp [h]⟩
theorem own_lower0 {w : World} {B B' e z n : Nat} {v : Value} {xs : List Value} (h : w.ownsRow B e z v n xs) (hB : B' ≤ B) : w.ownsRow B' e z v n xs := by
  refine ⟨h.1, ?_⟩
  rcases h.2 with hn | ⟨g, cap, cur, rfl, hbg, hg, r⟩
  · exact .inl hn
  · exact .inr ⟨g, cap, cur, rfl, by omega, hg, r⟩
end Go.Proofs.Ytmpakgabehplbaa
namespace Go.Proofs.Ytmpakgabehplbaa
open Go.RowKit
set_option linter.unusedVariables false
set_option linter.unusedSimpArgs false
/-- What a node is by itself, as package tree asks. -/
def selfB (x : I12) : Bool := nameB x.name && (decide (1 ≤ x.ver) && (decide (x.ver ≤ 9007199254740992) && (mayV x.lim && (mayV x.own && mayV x.sub))))
/-- The places reached from the root, behind so many rounds. -/
def qT (l : List I12) : Nat → List Nat
  | 0 => kidsT l ⟨#[]⟩ l.length
  | k + 1 => match (qT l k)[k]? with | some i => qT l k ++ kidsT l (nameAt l i) l.length | none => qT l k
def hangP (l : List I12) : Prop := ∀ k, k < l.length → k < (qT l k).length
theorem qT_lt (l : List I12) : ∀ k, ∀ i ∈ qT l k, i < l.length
  | 0, i, h => (kidsT_mem.1 h).1
  | k + 1, i, h => by
    rw [qT] at h
    split at h
    · rcases List.mem_append.1 h with h | h
      · exact qT_lt l k i h
      · exact (kidsT_mem.1 h).1
    · exact qT_lt l k i h
theorem qT_len (l : List I12) : ∀ k, (qT l k).length ≤ (k + 1) * l.length
  | 0 => by have := kidsT_len l ⟨#[]⟩ l.length; simpa [qT] using this
  | k + 1 => by
    have ih := qT_len l k
    rw [qT]
    have e : (k + 1 + 1) * l.length = (k + 1) * l.length + l.length := Nat.succ_mul _ _
    split
    · rename_i i _
      have := kidsT_len l (nameAt l i) l.length
      rw [List.length_append, e]; omega
    · omega
/-- What is reached stays so; it is in front of what comes. -/
theorem qT_grow (l : List I12) (k : Nat) : ∀ d, ∃ r, qT l (k + d) = qT l k ++ r
  | 0 => ⟨[], (List.append_nil _).symm⟩
  | d + 1 => by
    obtain ⟨r, hr⟩ := qT_grow l k d
    rw [← Nat.add_assoc, qT]
    split
    · exact ⟨r ++ _, by rw [hr, List.append_assoc]⟩
    · exact ⟨r, hr⟩
/-- Who is reached: from the root, or from one of those ahead. -/
theorem qT_mem {l : List I12} : ∀ k i, i ∈ qT l k → ∃ x, l[i]? = some x ∧ (x.parent = ⟨#[]⟩ ∨ ∃ j p y, j < k ∧ (qT l k)[j]? = some p ∧ l[p]? = some y ∧ y.name = x.parent)
  | 0, i, h => by
    obtain ⟨-, x, hx, hp⟩ := kidsT_mem.1 h
    exact ⟨x, hx, .inl hp⟩
  | k + 1, i, h => by
    have old : i ∈ qT l k → ∃ x, l[i]? = some x ∧ (x.parent = ⟨#[]⟩ ∨ ∃ j p y, j < k + 1 ∧ (qT l (k + 1))[j]? = some p ∧ l[p]? = some y ∧ y.name = x.parent) := by
      intro h
      obtain ⟨x, hx, hp⟩ := qT_mem k i h
      refine ⟨x, hx, hp.imp_right ?_⟩
      rintro ⟨j, p, y, hj, hjp, hy⟩
      obtain ⟨r, hr⟩ := qT_grow l k 1
      refine ⟨j, p, y, by omega, ?_, hy⟩
      rw [hr, List.getElem?_append_left (List.getElem?_eq_some_iff.1 hjp).1]
      exact hjp
    have hd : qT l (k + 1) = match (qT l k)[k]? with | some i => qT l k ++ kidsT l (nameAt l i) l.length | none => qT l k := rfl
    cases hq : (qT l k)[k]? with
    | none => rw [hq] at hd; rw [hd] at h; exact old h
    | some p =>
      rw [hq] at hd
      simp only at hd
      rw [hd] at h
      rcases List.mem_append.1 h with h | h
      · exact old h
      · obtain ⟨-, x, hx, hp⟩ := kidsT_mem.1 h
        have hpl := qT_lt l k p (List.mem_of_getElem? hq)
        refine ⟨x, hx, .inr ⟨k, p, l[p], by omega, ?_, List.getElem?_eq_getElem hpl, ?_⟩⟩
        · rw [hd, List.getElem?_append_left (List.getElem?_eq_some_iff.1 hq).1]; exact hq
        · rw [hp, nameAt_at (List.getElem?_eq_getElem hpl)]
theorem kidsT_nodup (l : List I12) (s : ByteArray) (k : Nat) : (kidsT l s k).Nodup := by
  unfold kidsT
  exact List.Nodup.sublist List.filter_sublist List.nodup_range
theorem uqT {l : List I12} (hu : Uq l) {i j : Nat} {x y : I12} (hi : l[i]? = some x) (hj : l[j]? = some y) (hn : x.name = y.name) : i = j := by
  unfold Uq at hu
  rw [List.pairwise_iff_getElem] at hu
  obtain ⟨h1, rfl⟩ := List.getElem?_eq_some_iff.1 hi
  obtain ⟨h2, rfl⟩ := List.getElem?_eq_some_iff.1 hj
  rcases Nat.lt_trichotomy i j with h | h | h
  · exact absurd hn (hu i j h1 h2 h)
  · exact h
  · exact absurd hn.symm (hu j i h2 h1 h)
theorem nodup_at {α : Type} {q : List α} (hq : q.Nodup) {i j : Nat} {a : α} (hi : q[i]? = some a) (hj : q[j]? = some a) : i = j := by
  unfold List.Nodup at hq
  rw [List.pairwise_iff_getElem] at hq
  obtain ⟨h1, rfl⟩ := List.getElem?_eq_some_iff.1 hi
  obtain ⟨h2, h3⟩ := List.getElem?_eq_some_iff.1 hj
  rcases Nat.lt_trichotomy i j with h | h | h
  · exact absurd h3.symm (hq i j h1 h2 h)
  · exact h
  · exact absurd h3 (hq j i h2 h1 h)
theorem nodup_le {α : Type} [DecidableEq α] : ∀ (a b : List α), a.Nodup → (∀ x ∈ a, x ∈ b) → a.length ≤ b.length
  | [], b, _, _ => Nat.zero_le _
  | x :: a, b, hn, h => by
    rw [List.nodup_cons] at hn
    have hx := h x List.mem_cons_self
    have ih := nodup_le a (b.erase x) hn.2 (fun y hy => (List.mem_erase_of_ne (fun e => hn.1 (by rw [← e]; exact hy))).2 (h y (List.mem_cons_of_mem _ hy)))
    rw [List.length_erase_of_mem hx] at ih
    have := List.length_pos_of_mem hx
    rw [List.length_cons]; omega
/-- Nobody is reached twice. -/
theorem qT_nodup {l : List I12} (hu : Uq l) (hn : ∀ x ∈ l, x.name ≠ ⟨#[]⟩) : ∀ k, (qT l k).Nodup
  | 0 => kidsT_nodup ..
  | k + 1 => by
    have ih := qT_nodup hu hn k
    rw [qT]
    split
    · rename_i p hq
      rw [List.nodup_append]
      refine ⟨ih, kidsT_nodup .., fun i hi i' hi' => ?_⟩
      rintro rfl
      obtain ⟨-, x, hx, hp⟩ := kidsT_mem.1 hi'
      have hpl := qT_lt l k p (List.mem_of_getElem? hq)
      have hpx := List.getElem?_eq_getElem hpl
      rw [nameAt_at hpx] at hp
      obtain ⟨x', hx', h⟩ := qT_mem k i hi
      obtain rfl : x = x' := Option.some.inj (hx.symm.trans hx')
      rcases h with h | ⟨j, p', y, hj, hjp, hy, hyn⟩
      · exact hn _ (List.getElem_mem hpl) (hp.symm.trans h)
      · have e : p' = p := uqT hu hy hpx (hyn.trans hp)
        subst e
        have := nodup_at ih hjp hq
        omega
    · exact ih
/-- A row of places, none twice, as many as there are: all. -/
theorem all_places (n : Nat) (q : List Nat) (hnd : q.Nodup) (hlt : ∀ i ∈ q, i < n) (hlen : n ≤ q.length) : ∀ i, i < n → i ∈ q := by
  intro i hi
  refine Classical.byContradiction fun hm => ?_
  have := nodup_le (i :: q) (List.range n) (List.nodup_cons.2 ⟨hm, hnd⟩) (fun j hj => by
    rw [List.mem_range]
    rcases List.mem_cons.1 hj with rfl | hj
    · exact hi
    · exact hlt j hj)
  rw [List.length_cons, List.length_range] at this
  omega
theorem upF_take (l : List I12) : ∀ n d s, upF l n s = (upF l (n + d) s).take n
  | 0, d, s => by simp [upF]
  | n + 1, d, s => by
    rw [show n + 1 + d = (n + d) + 1 by omega]
    cases hs : look l s with
    | none => rw [upF_lnone hs, upF_lnone hs]; rfl
    | some x => rw [upF_lsome hs, upF_lsome hs, List.take_succ_cons, ← upF_take l n d x.parent]
/-- The names above somebody, none twice, are no more than there are. -/
theorem up_short {l : List I12} : ∀ (n : Nat) (s : ByteArray), (upF l n s).length < n → (upF l n s).length ≤ l.length := by
  intro n s h
  have hnd := upF_nodup n s h
  have hin : ∀ (n : Nat) (s t : ByteArray), t ∈ upF l n s → ∃ x ∈ l, x.name = t := by
    intro n
    induction n with
    | zero => intro s t ht; cases ht
    | succ n ih =>
      intro s t ht
      cases hs : look l s with
      | none => rw [upF_lnone hs] at ht; cases ht
      | some x =>
        rw [upF_lsome hs] at ht
        rcases List.mem_cons.1 ht with rfl | ht
        · obtain ⟨h1, h2⟩ := look_name hs
          exact ⟨x, h1, h2⟩
        · exact ih _ _ ht
  have := nodup_le _ (l.map (·.name)) hnd (fun t ht => by
    obtain ⟨x, hx, hn⟩ := hin n s t ht
    exact List.mem_map.2 ⟨x, hx, hn⟩)
  rwa [List.length_map] at this
/-- A way up that ends. -/
def endsT (l : List I12) (s : ByteArray) : Prop := ∃ n, (upF l n s).length < n
theorem ends_up {l : List I12} {s : ByteArray} (h : endsT l s) : (upI l s).length ≤ l.length := by
  obtain ⟨n, hn⟩ := h
  have h1 := up_short n s hn
  unfold upI
  by_cases e : n ≤ l.length + 1
  · have := upF_more hn (l.length + 1 - n)
    rw [show n + (l.length + 1 - n) = l.length + 1 by omega] at this
    rw [this]; exact h1
  · have := upF_take l (l.length + 1) (n - (l.length + 1)) s
    rw [show l.length + 1 + (n - (l.length + 1)) = n by omega] at this
    rw [this, List.length_take]; omega
theorem qT_ends {l : List I12} (hu : Uq l) (hn : ∀ x ∈ l, x.name ≠ ⟨#[]⟩) : ∀ k i x, i ∈ qT l k → l[i]? = some x → endsT l x.name ∧ (x.parent = ⟨#[]⟩ ∨ ∃ y ∈ l, y.name = x.parent)
  | 0, i, x, h, hx => by
    obtain ⟨-, x', hx', hp⟩ := kidsT_mem.1 h
    obtain rfl : x = x' := Option.some.inj (hx.symm.trans hx')
    refine ⟨⟨2, ?_⟩, .inl hp⟩
    rw [upF_lsome (look_mem hu (List.mem_of_getElem? hx)), hp, upF_lnone (look_none.2 hn)]
    simp
  | k + 1, i, x, h, hx => by
    rw [qT] at h
    split at h
    · rename_i p hq
      rcases List.mem_append.1 h with h | h
      · exact qT_ends hu hn k i x h hx
      · obtain ⟨-, x', hx', hp⟩ := kidsT_mem.1 h
        obtain rfl : x = x' := Option.some.inj (hx.symm.trans hx')
        have hpl := qT_lt l k p (List.mem_of_getElem? hq)
        have hpx := List.getElem?_eq_getElem hpl
        rw [nameAt_at hpx] at hp
        obtain ⟨⟨n, h1⟩, -⟩ := qT_ends hu hn k p _ (List.mem_of_getElem? hq) hpx
        refine ⟨⟨n + 1, ?_⟩, .inr ⟨_, List.getElem_mem hpl, hp.symm⟩⟩
        rw [upF_lsome (look_mem hu (List.mem_of_getElem? hx)), hp, List.length_cons]
        omega
    · exact qT_ends hu hn k i x h hx
theorem hang_len {l : List I12} (h : hangP l) : ∀ k, k ≤ l.length → k ≤ (qT l k).length := by
  intro k hk
  cases k with
  | zero => exact Nat.zero_le _
  | succ k =>
    have h1 := h k (by omega)
    obtain ⟨r, hr⟩ := qT_grow l k 1
    rw [hr, List.length_append]; omega
/-- All are reached just if all ways up end, at the root. -/
theorem hang_iff {l : List I12} (hu : Uq l) (hn : ∀ x ∈ l, x.name ≠ ⟨#[]⟩) : hangP l ↔ ∀ x ∈ l, (x.parent = ⟨#[]⟩ ∨ ∃ y ∈ l, y.name = x.parent) ∧ (upI l x.name).length ≤ l.length := by
  constructor
  · intro h x hx
    obtain ⟨i, hi, rfl⟩ := List.mem_iff_getElem.1 hx
    have hm := all_places l.length (qT l l.length) (qT_nodup hu hn _) (qT_lt l _) (hang_len h _ (Nat.le_refl _)) i hi
    obtain ⟨h1, h2⟩ := qT_ends hu hn _ i _ hm (List.getElem?_eq_getElem hi)
    exact ⟨h2, ends_up h1⟩
  · intro h k hk
    refine Classical.byContradiction fun hno => ?_
    have hge : (qT l k).length ≤ k := by omega
    -- what is reached is closed
    have hst : ∀ d, qT l (k + d) = qT l k := by
      intro d
      induction d with
      | zero => rfl
      | succ d ih =>
        rw [← Nat.add_assoc, qT, ih, List.getElem?_eq_none (by omega)]
    have hqk : ∀ (j i p : Nat) (y : I12), (qT l k)[j]? = some p → l[p]? = some y → i < l.length → (∃ x, l[i]? = some x ∧ x.parent = y.name) → i ∈ qT l k := by
      intro j i p y hj hy hi hx
      have hjk : j < k := by have := (List.getElem?_eq_some_iff.1 hj).1; omega
      -- in round j p's were put
      have hjj : j < (qT l j).length ∨ (qT l j).length ≤ j := by omega
      rcases hjj with hjj | hjj
      · have : (qT l j)[j]? = some p := by
          obtain ⟨r, hr⟩ := qT_grow l j (k - j)
          rw [show j + (k - j) = k by omega] at hr
          rw [hr, List.getElem?_append_left hjj] at hj
          exact hj
        have h2 : i ∈ qT l (j + 1) := by
          rw [qT, this]
          exact List.mem_append_right _ (kidsT_mem.2 ⟨hi, by rw [nameAt_at hy]; exact hx⟩)
        obtain ⟨r, hr⟩ := qT_grow l (j + 1) (k - (j + 1))
        rw [show j + 1 + (k - (j + 1)) = k by omega] at hr
        rw [hr]; exact List.mem_append_left _ h2
      · have hsj : ∀ d, qT l (j + d) = qT l j := by
          intro d
          induction d with
          | zero => rfl
          | succ d ih => rw [← Nat.add_assoc, qT, ih, List.getElem?_eq_none (by omega)]
        have := hsj (k - j)
        rw [show j + (k - j) = k by omega] at this
        rw [this] at hj
        have := (List.getElem?_eq_some_iff.1 hj).1
        omega
    have hroot : ∀ (i : Nat) (x : I12), l[i]? = some x → x.parent = ⟨#[]⟩ → i ∈ qT l k := by
      intro i x hx hp
      obtain ⟨r, hr⟩ := qT_grow l 0 k
      rw [Nat.zero_add] at hr
      rw [hr]
      exact List.mem_append_left _ (kidsT_mem.2 ⟨(List.getElem?_eq_some_iff.1 hx).1, x, hx, hp⟩)
    -- somebody is not reached: so are all above him
    have hout : ∀ (n i : Nat) (x : I12), l[i]? = some x → i ∉ qT l k → (upF l n x.name).length = n := by
      intro n
      induction n with
      | zero => intro i x _ _; rfl
      | succ n ih =>
        intro i x hx hi
        rw [upF_lsome (look_mem hu (List.mem_of_getElem? hx)), List.length_cons]
        rcases (h x (List.mem_of_getElem? hx)).1 with hp | ⟨y, hy, hyn⟩
        · exact absurd (hroot i x hx hp) hi
        · obtain ⟨p, hp, rfl⟩ := List.mem_iff_getElem.1 hy
          have hpx := List.getElem?_eq_getElem hp
          rw [← hyn, ih p _ hpx (fun hm => hi ?_)]
          obtain ⟨j, hj, hje⟩ := List.mem_iff_getElem.1 hm
          exact hqk j i p _ (by rw [List.getElem?_eq_getElem hj, hje]) hpx (List.getElem?_eq_some_iff.1 hx).1 ⟨x, hx, hyn.symm⟩
    have hex : ∃ i, i < l.length ∧ i ∉ qT l k := by
      refine Classical.byContradiction fun hno => ?_
      have hall : ∀ i, i < l.length → i ∈ qT l k := fun i hi => Classical.byContradiction fun hm => hno ⟨i, hi, hm⟩
      have := nodup_le (List.range l.length) (qT l k) List.nodup_range (fun i hi => hall i (List.mem_range.1 hi))
      rw [List.length_range] at this
      omega
    obtain ⟨i, hi, hm⟩ := hex
    have h1 := hout (l.length + 1) i _ (List.getElem?_eq_getElem hi) hm
    have h2 := (h _ (List.getElem_mem hi)).2
    unfold upI at h2
    omega
/-- Sum and room of each. -/
def sumB (l : List I12) (x : I12) : Bool := eqV (subTo l x l.length) x.sub && leV x.sub x.lim
/-- Package tree's Right, part by part. -/
theorem parts_right {l : List I12} (hl : l.length ≤ 120) : rightP l ↔ Srt l ∧ (∀ x ∈ l, selfB x = true) ∧ hangP l ∧ ∀ x ∈ l, sumB l x = true := by
  rw [right_iff]
  have hself : ∀ x, selfB x = true ↔ nameB x.name = true ∧ (1 ≤ x.ver ∧ x.ver ≤ 9007199254740992) ∧ mayV x.lim = true ∧ mayV x.own = true ∧ mayV x.sub = true := by
    intro x
    unfold selfB
    simp only [Bool.and_eq_true, decide_eq_true_eq, and_assoc]
  constructor
  · intro h
    have hs : ∀ x ∈ l, selfB x = true := fun x hx => by
      obtain ⟨g1, g2, g3, g4, g5, g6, g7⟩ := one_iff.1 (h.one x hx)
      exact (hself x).2 ⟨g1, g5, g2, g3, g7⟩
    have hn : ∀ x ∈ l, x.name ≠ ⟨#[]⟩ := fun x hx => name_ne ((hself x).1 (hs x hx)).1
    refine ⟨h.srt, hs, (hang_iff h.srt.uq hn).2 fun x hx => ⟨(one_iff.1 (h.one x hx)).2.2.2.1, (two_iff.1 (h.two x hx)).2⟩, fun x hx => ?_⟩
    have h2 := h.two x hx
    unfold i2OK at h2
    rw [Bool.and_eq_true] at h2
    unfold sumB
    rw [h2.1, (one_iff.1 (h.one x hx)).2.2.2.2.2.1]; rfl
  · rintro ⟨h1, h2, h3, h4⟩
    have hn : ∀ x ∈ l, x.name ≠ ⟨#[]⟩ := fun x hx => name_ne ((hself x).1 (h2 x hx)).1
    have h5 := (hang_iff h1.uq hn).1 h3
    refine ⟨hl, h1, fun x hx => ?_, fun x hx => ?_⟩
    · obtain ⟨g1, g5, g2, g3, g7⟩ := (hself x).1 (h2 x hx)
      have h6 := h4 x hx
      unfold sumB at h6
      rw [Bool.and_eq_true] at h6
      exact one_iff.2 ⟨g1, g2, g3, (h5 x hx).1, g5, h6.2, g7⟩
    · have h6 := h4 x hx
      unfold sumB at h6
      rw [Bool.and_eq_true] at h6
      unfold i2OK
      rw [h6.1, decide_eq_true (h5 x hx).2]; rfl
end Go.Proofs.Ytmpakgabehplbaa
