/- Live trees: rows of nodes that a call makes. -/
import Derived.Test.YtekaefeogbmmmaaTrG
namespace Go.Proofs.Ytekaefeogbmmmaa
open Go.RowKit
set_option linter.unusedVariables false
set_option linter.unusedSimpArgs false
def i12s (l : List I12) : List Value := l.flatMap I12.cells
theorem i12s_len (l : List I12) : (i12s l).length = l.length * 12 := by
  induction l with
  | nil => rfl
  | cons x l ih => simp only [i12s, List.flatMap_cons, List.length_append, List.length_cons] at *; rw [ih]; simp [I12.cells]; omega
theorem i12s_at (l : List I12) : ∀ (i r : Nat) (u : I12), l[i]? = some u → r < 12 → (i12s l)[i * 12 + r]? = u.cells[r]? := by
  induction l with
  | nil => intro i r u hu; simp at hu
  | cons x l ih =>
    intro i r u hu hr
    cases i with
    | zero =>
      simp at hu; subst hu
      simp only [i12s, List.flatMap_cons, Nat.zero_mul, Nat.zero_add]
      rw [List.getElem?_append_left (by simpa [I12.cells] using hr)]
    | succ i =>
      have h := ih i r u (by simpa using hu) hr
      simp only [i12s, List.flatMap_cons] at h ⊢
      rw [List.getElem?_append_right (by simp [I12.cells]; omega), ← h]
      congr 1
      simp [I12.cells]; omega
theorem i12s_app (a b : List I12) : i12s (a ++ b) = i12s a ++ i12s b := by simp [i12s]
theorem i12c_one (x : I12) : ∀ u ∈ x.cells, u.oneCell' = true := by
  intro u hx
  simp only [I12.cells, List.mem_cons, List.not_mem_nil, or_false] at hx
  rcases hx with rfl | rfl | rfl | rfl | rfl | rfl | rfl | rfl | rfl | rfl | rfl | rfl <;> rfl
theorem i12s_one (l : List I12) : ∀ u ∈ i12s l, u.oneCell' = true := by
  intro u hu
  unfold i12s at hu
  obtain ⟨x, -, hx⟩ := List.mem_flatMap.1 hu
  exact i12c_one x u hx
/-- A row at cells that lie one behind the other. -/
theorem irow_of {w : World} {g o cap : Nat} {l : List I12} (h1 : l.length ≤ cap) (h2 : cap ≤ maxLen) (hc : ∀ j u, (i12s l)[j]? = some u → w.cell? ⟨g, o + j, none⟩ = some u) : IRow w l (.slice (some ⟨g, o, none⟩) l.length cap) := by
  refine ⟨_, _, rfl, h1, h2, fun i u hu => ⟨g, o, rfl, ?_⟩⟩
  have key : ∀ r v, r < 12 → u.cells[r]? = some v → w.cell? ⟨g, o + i * 12 + r, none⟩ = some v := by
    intro r v hr hv
    have := hc (i * 12 + r) v ((i12s_at l i r u hu hr).trans hv)
    rwa [← Nat.add_assoc] at this
  exact ⟨key 0 _ (by decide) rfl, key 1 _ (by decide) rfl, key 2 _ (by decide) rfl, key 3 _ (by decide) rfl, key 4 _ (by decide) rfl, key 5 _ (by decide) rfl, key 6 _ (by decide) rfl, key 7 _ (by decide) rfl, key 8 _ (by decide) rfl, key 9 _ (by decide) rfl, key 10 _ (by decide) rfl, key 11 _ (by decide) rfl⟩
/-- A row of nodes in a block that was made at B or later. -/
def IOwn (w : World) (B : Nat) (l : List I12) (v : Value) : Prop := w.ownsRow B 40 12 v l.length (i12s l)
theorem irow_of_own {w : World} {B : Nat} {v : Value} {l : List I12} (h : IOwn w B l v) : IRow w l v := by
  rcases h.2 with ⟨rfl, h0⟩ | ⟨g, cap, cur, rfl, hb, hg, h1, h2, h3, h4⟩
  · obtain rfl : l = [] := List.eq_nil_of_length_eq_zero h0
    exact IRow.nil w
  · refine irow_of h1 h2 fun j u hj => ?_
    have := World.ownsRow.cells (g := g) h rfl j u hj
    rwa [wadd] at this
theorem I12At.cell {w : World} {g o : Nat} {u : I12} (h : I12At w g o u) : ∀ r v, u.cells[r]? = some v → w.cell? ⟨g, o + r, none⟩ = some v
  | 0, v, hv => by simp [I12.cells] at hv; subst hv; exact h.c0
  | 1, v, hv => by simp [I12.cells] at hv; subst hv; exact h.c1
  | 2, v, hv => by simp [I12.cells] at hv; subst hv; exact h.c2
  | 3, v, hv => by simp [I12.cells] at hv; subst hv; exact h.c3
  | 4, v, hv => by simp [I12.cells] at hv; subst hv; exact h.c4
  | 5, v, hv => by simp [I12.cells] at hv; subst hv; exact h.c5
  | 6, v, hv => by simp [I12.cells] at hv; subst hv; exact h.c6
  | 7, v, hv => by simp [I12.cells] at hv; subst hv; exact h.c7
  | 8, v, hv => by simp [I12.cells] at hv; subst hv; exact h.c8
  | 9, v, hv => by simp [I12.cells] at hv; subst hv; exact h.c9
  | 10, v, hv => by simp [I12.cells] at hv; subst hv; exact h.c10
  | 11, v, hv => by simp [I12.cells] at hv; subst hv; exact h.c11
  | r + 12, v, hv => by simp [I12.cells] at hv
/-- A row's cells, for an append. -/
theorem IRow.src {w : World} {l : List I12} {ao : Option Addr} {n cap : Nat} (h : IRow w l (.slice ao n cap)) : (ao = none → n = 0) ∧ ∀ ad, ao = some ad → ∀ j u, (i12s l)[j]? = some u → w.cell? (ad.add j) = some u := by
  obtain ⟨ao', cap', e, h1, h2, hc⟩ := h
  simp only [Value.slice.injEq] at e
  obtain ⟨rfl, rfl, rfl⟩ := e
  refine ⟨fun hn => ?_, fun ad had j u hj => ?_⟩
  · cases hl : l with
    | nil => rfl
    | cons x r =>
      obtain ⟨g, o, e, -⟩ := hc 0 x (by rw [hl]; rfl)
      rw [hn] at e; cases e
  · have hjl : j < l.length * 12 := by rw [← i12s_len]; exact (List.getElem?_eq_some_iff.1 hj).1
    have hi : j / 12 < l.length := by omega
    obtain ⟨g, o, e, hx⟩ := hc (j / 12) _ (List.getElem?_eq_getElem hi)
    rw [had] at e
    cases e
    rw [wadd]
    have h5 := i12s_at l (j / 12) (j % 12) _ (List.getElem?_eq_getElem hi) (by omega)
    rw [show j / 12 * 12 + j % 12 = j by omega, hj] at h5
    have := hx.cell (j % 12) u h5.symm
    rwa [show o + j / 12 * 12 + j % 12 = o + j by omega] at this
theorem elemItem : Try.prog.elem 22 = 40 := by kernel_rfl
theorem sizeItem (w : World) : (sizeOf (Try.prog.elem 22)).run Try.prog w = .ok 12 w := by kernel_rfl
/-- What is left of a row from place k on; its first k. -/
theorem isl_from (ao : Option Addr) (n cap k : Nat) (h : k ≤ n) (W : World) : (Instr.slice 22 (.slice ao n cap) (some (.int .i64 (k : Int))) none none).run Try.prog W = .ok (sliced ao k n cap 12) W := by
  rw [run_slice_l (P := Try.prog) W 22 ao n cap (by rw [elemItem]; exact Try.underlying22) .i64 k (by omega) (by omega), sizeItem]
  rfl
theorem isl_take (ao : Option Addr) (n cap k : Nat) (h : k ≤ cap) (W : World) : (Instr.slice 22 (.slice ao n cap) none (some (.int .i64 (k : Int))) none).run Try.prog W = .ok (.slice ao k cap) W := by
  rw [run_slice_h (P := Try.prog) W 22 ao n cap (by rw [elemItem]; exact Try.underlying22) .i64 k (by omega) (by omega), sizeItem]
  cases ao with
  | none => simp [Result.andThen, sliced]
  | some a =>
    obtain ⟨g, o, p⟩ := a
    simp only [Result.andThen, sliced, Int.toNat_natCast, Nat.sub_zero, Nat.zero_mul]
    have e : (⟨g, o, p⟩ : Addr).add 0 = ⟨g, o, p⟩ := by unfold Addr.add; split <;> simp_all
    simp [e]
theorem IRow.take {w : World} {l : List I12} {ao : Option Addr} {n cap : Nat} (h : IRow w l (.slice ao n cap)) (k : Nat) (hk : k ≤ l.length) : IRow w (l.take k) (.slice ao k cap) := by
  obtain ⟨ao', cap', e, h1, h2, hc⟩ := h
  simp only [Value.slice.injEq] at e
  obtain ⟨rfl, rfl, rfl⟩ := e
  have hl : (l.take k).length = k := by rw [List.length_take]; omega
  refine ⟨ao, cap, by rw [hl], by omega, h2, fun i u hu => hc i u ?_⟩
  rw [List.getElem?_take] at hu
  split at hu
  · exact hu
  · cases hu
theorem IRow.drop {w : World} {l : List I12} {ao : Option Addr} {n cap : Nat} (h : IRow w l (.slice ao n cap)) (k : Nat) (hk : k ≤ l.length) : IRow w (l.drop k) (sliced ao k n cap 12) := by
  obtain ⟨ao', cap', e, h1, h2, hc⟩ := h
  simp only [Value.slice.injEq] at e
  obtain ⟨rfl, rfl, rfl⟩ := e
  have hl : (l.drop k).length = l.length - k := List.length_drop ..
  refine ⟨if cap = k then ao else ao.map (·.add (k * 12)), cap - k, by rw [hl]; rfl, by omega, by omega, fun i u hu => ?_⟩
  rw [List.getElem?_drop] at hu
  obtain ⟨g, o, e, h3⟩ := hc (k + i) u hu
  have hki : k + i < l.length := (List.getElem?_eq_some_iff.1 hu).1
  subst e
  refine ⟨g, o + k * 12, by rw [if_neg (by omega), Option.map_some, wadd], ?_⟩
  rw [show o + k * 12 + i * 12 = o + (k + i) * 12 by rw [Nat.add_mul]; omega]
  exact h3
theorem whileI {P : I12 → Bool} : ∀ {out : List I12} {j : Nat}, (∀ k y, k < j → out[k]? = some y → P y = true) → (∀ y, out[j]? = some y → P y = false) → out.takeWhile P = out.take j ∧ out.dropWhile P = out.drop j
  | [], j, _, _ => by simp
  | a :: out, 0, _, h => by
    have := h a rfl
    simp [this]
  | a :: out, j + 1, h, h2 => by
    have h0 := h 0 a (by omega) rfl
    have ih := whileI (P := P) (out := out) (j := j) (fun k y hk hy => h (k + 1) y (by omega) (by simpa using hy)) (fun y hy => h2 y (by simpa using hy))
    simp only [List.takeWhile_cons, List.dropWhile_cons, h0, if_true, List.take_succ_cons, List.drop_succ_cons, ih.1, ih.2, and_self]
theorem info_item : (Try.prog.info? 40).map (fun i => (i.zero, i.size, i.bytes)) = some (some (.agg #[.string ⟨#[]⟩, .string ⟨#[]⟩, .int .i64 0, .int .i64 0, .int .i64 0, .int .i64 0, .int .i64 0, .int .i64 0, .int .i64 0, .int .i64 0, .int .i64 0, .int .i64 0]), 12, 112) := by kernel_rfl
end Go.Proofs.Ytekaefeogbmmmaa
