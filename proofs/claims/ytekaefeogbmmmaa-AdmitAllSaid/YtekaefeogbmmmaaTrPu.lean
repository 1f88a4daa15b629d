/- Live trees: more that is pure. -/
import Derived.Test.YtekaefeogbmmmaaTrI
namespace Go.Proofs.Ytekaefeogbmmmaa
open Go.RowKit
set_option linter.unusedVariables false
set_option linter.unusedSimpArgs false
theorem nameAt_at {l : List I12} {i : Nat} {x : I12} (h : l[i]? = some x) : nameAt l i = x.name := by unfold nameAt; rw [h]
theorem size_pos {s : ByteArray} : s = ⟨#[]⟩ ↔ s.size = 0 := by
  constructor
  · rintro rfl; rfl
  · intro h
    cases s with
    | mk d =>
      have : d.size = 0 := h
      rw [Array.eq_empty_of_size_eq_zero this]
theorem nameB_size (s : ByteArray) : nameB s = (decide (1 ≤ s.size) && decide (s.size ≤ 24)) := by
  unfold nameB
  congr 1
  rw [← decide_not]
  exact decide_eq_decide.2 (by rw [size_pos]; omega)
theorem nats_of {xs : List Int} (h : ∀ x ∈ xs, 0 ≤ x ∧ x ≤ 255) : ∃ ns : List Nat, xs = ns.map (fun n : Nat => (n : Int)) ∧ ∀ x ∈ ns, x ≤ 255 := by
  refine ⟨xs.map Int.toNat, ?_, fun x hx => ?_⟩
  · rw [List.map_map]
    conv => lhs; rw [← List.map_id xs]
    refine List.map_congr_left fun x hx => ?_
    have := h x hx
    show x = ((x.toNat : Nat) : Int)
    omega
  · obtain ⟨y, hy, rfl⟩ := List.mem_map.1 hx
    have := h y hy; omega
theorem name_24 {s : ByteArray} (h : nameB s = true) : s.size ≤ 24 := by
  rw [nameB_size, Bool.and_eq_true, decide_eq_true_eq, decide_eq_true_eq] at h
  exact h.2
theorem RT.short {l : List I12} (h : RT l) : ∀ u ∈ l, u.name.size ≤ 1000000 ∧ u.parent.size ≤ 1000000 := by
  intro u hu
  obtain ⟨g1, -, -, g4, -⟩ := one_iff.1 (h.one u hu)
  refine ⟨by have := name_24 g1; omega, ?_⟩
  rcases g4 with e | ⟨y, hy, e⟩
  · rw [e]; decide
  · rw [← e]
    obtain ⟨k1, -⟩ := one_iff.1 (h.one y hy)
    have := name_24 k1; omega
theorem sumF_app (f : I12 → V3) (a b : List I12) : sumF f (a ++ b) = addV (sumF f a) (sumF f b) := by
  induction a with
  | nil => exact (z_addV _).symm
  | cons x r ih => rw [List.cons_append, sumF, sumF, ih, addV_assoc]
theorem sumF_step {f : I12 → V3} {l : List I12} {k : Nat} {x : I12} (hx : l[k]? = some x) : sumF f (l.take (k + 1)) = addV (sumF f (l.take k)) (f x) := by
  rw [List.take_add_one, hx, sumF_app]
  simp only [Option.toList_some, sumF, addV_z]
theorem kidS_step {s : ByteArray} {l : List I12} {k : Nat} {x : I12} (hx : l[k]? = some x) : kidS (l.take (k + 1)) s = if x.parent = s then addV (kidS (l.take k) s) x.sub else kidS (l.take k) s := by
  rw [List.take_add_one, hx, kid_app]
  simp only [Option.toList_some, kidS]
  split
  · rw [addV_z]
  · rw [addV_z]
theorem sumF_up {l : List I12} (h : ∀ y ∈ l, mayV y.own = true) : ∀ k, k ≤ l.length → (sumF (fun x => x.own) (l.take k)).Upto ((k : Int) * 1099511627776)
  | 0, _ => by simp [sumF, V3.Upto, z3]
  | k + 1, hk => by
    have ih := sumF_up h k (by omega)
    have hx := List.getElem?_eq_getElem (show k < l.length by omega)
    have hb := may_bounds (h _ (List.getElem_mem (show k < l.length by omega)))
    rw [sumF_step hx]
    unfold V3.Upto addV at *
    simp only
    omega
theorem kidS_up {s : ByteArray} {l : List I12} (h : ∀ y ∈ l, mayV y.sub = true) : ∀ k, k ≤ l.length → (kidS (l.take k) s).Upto ((k : Int) * 1099511627776)
  | 0, _ => by simp [kidS, V3.Upto, z3]
  | k + 1, hk => by
    have ih := kidS_up (s := s) h k (by omega)
    have hx := List.getElem?_eq_getElem (show k < l.length by omega)
    have hb := may_bounds (h _ (List.getElem_mem (show k < l.length by omega)))
    rw [kidS_step hx]
    split
    · unfold V3.Upto addV at *
      simp only
      omega
    · unfold V3.Upto at *
      omega
theorem bool_of (p : Prop) : ∃ b : Bool, b = true ↔ p := by
  by_cases h : p
  · exact ⟨true, by simp [h]⟩
  · exact ⟨false, by simp [h]⟩
theorem own_lower0 {w : World} {B B' e z n : Nat} {v : Value} {xs : List Value} (h : w.ownsRow B e z v n xs) (hB : B' ≤ B) : w.ownsRow B' e z v n xs := by
  refine ⟨h.1, ?_⟩
  rcases h.2 with hn | ⟨g, cap, cur, rfl, hbg, hg, r⟩
  · exact .inl hn
  · exact .inr ⟨g, cap, cur, rfl, by omega, hg, r⟩
end Go.Proofs.Ytekaefeogbmmmaa
