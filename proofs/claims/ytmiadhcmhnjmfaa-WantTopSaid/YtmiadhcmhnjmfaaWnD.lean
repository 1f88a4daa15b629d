/- Declared trees: rows that a call makes of them; the document's Top. -/
import Derived.Test.YtmiadhcmhnjmfaaWnC
import Derived.Test.YtmiadhcmhnjmfaaOwnX
namespace Go.Proofs.Ytmiadhcmhnjmfaa
open Go.RowKit
set_option linter.unusedVariables false
set_option linter.unusedSimpArgs false
def w5s (l : List W5) : List Value := l.flatMap W5.cells
theorem w5s_len (l : List W5) : (w5s l).length = l.length * 5 := by
  induction l with
  | nil => rfl
  | cons x l ih => simp only [w5s, List.flatMap_cons, List.length_append, List.length_cons] at *; rw [ih]; simp [W5.cells]; omega
theorem w5s_at (l : List W5) : ∀ (i r : Nat) (u : W5), l[i]? = some u → r < 5 → (w5s l)[i * 5 + r]? = u.cells[r]? := by
  induction l with
  | nil => intro i r u hu; simp at hu
  | cons x l ih =>
    intro i r u hu hr
    cases i with
    | zero =>
      simp at hu; subst hu
      simp only [w5s, List.flatMap_cons, Nat.zero_mul, Nat.zero_add]
      rw [List.getElem?_append_left (by simpa [W5.cells] using hr)]
    | succ i =>
      have h := ih i r u (by simpa using hu) hr
      simp only [w5s, List.flatMap_cons] at h ⊢
      rw [List.getElem?_append_right (by simp [W5.cells]; omega), ← h]
      congr 1
      simp [W5.cells]; omega
theorem w5s_app (a b : List W5) : w5s (a ++ b) = w5s a ++ w5s b := by simp [w5s]
theorem w5s_one (l : List W5) : ∀ u ∈ w5s l, u.oneCell' = true := by
  intro u hu
  unfold w5s at hu
  obtain ⟨x, -, hx⟩ := List.mem_flatMap.1 hu
  simp only [W5.cells, List.mem_cons, List.not_mem_nil, or_false] at hx
  rcases hx with rfl | rfl | rfl | rfl | rfl <;> rfl
/-- A row at cells that lie one behind the other. -/
theorem wrow_of {w : World} {g o cap : Nat} {l : List W5} (h1 : l.length ≤ cap) (h2 : cap ≤ maxLen) (hc : ∀ j u, (w5s l)[j]? = some u → w.cell? ⟨g, o + j, none⟩ = some u) : WRow w l (.slice (some ⟨g, o, none⟩) l.length cap) := by
  refine ⟨_, _, rfl, h1, h2, fun i u hu => ⟨g, o, rfl, ?_, ?_, ?_, ?_, ?_⟩⟩
  · have := hc (i * 5 + 0) _ ((w5s_at l i 0 u hu (by omega)).trans rfl)
    rwa [Nat.add_zero] at this
  · have := hc (i * 5 + 1) _ ((w5s_at l i 1 u hu (by omega)).trans rfl)
    rwa [← Nat.add_assoc] at this
  · have := hc (i * 5 + 2) _ ((w5s_at l i 2 u hu (by omega)).trans rfl)
    rwa [← Nat.add_assoc] at this
  · have := hc (i * 5 + 3) _ ((w5s_at l i 3 u hu (by omega)).trans rfl)
    rwa [← Nat.add_assoc] at this
  · have := hc (i * 5 + 4) _ ((w5s_at l i 4 u hu (by omega)).trans rfl)
    rwa [← Nat.add_assoc] at this
theorem wadd (g o j : Nat) : (⟨g, o, none⟩ : Addr).add j = ⟨g, o + j, none⟩ := by unfold Addr.add; split <;> simp_all
theorem wrow_of_own {w : World} {B : Nat} {v : Value} {l : List W5} (h : w.ownsRow B 39 5 v l.length (w5s l)) : WRow w l v := by

  rcases h.2 with ⟨rfl, h0⟩ | ⟨g, cap, cur, rfl, hb, hg, h1, h2, h3, h4⟩
  · obtain rfl : l = [] := List.eq_nil_of_length_eq_zero h0
    exact WRow.nil w
  · refine wrow_of h1 h2 fun j u hj => ?_
    have := World.ownsRow.cells (g := g) h rfl j u hj
    rwa [wadd] at this
/-- A row's cells, for an append. -/
theorem WRow.src {w : World} {l : List W5} {ao : Option Addr} {n cap : Nat} (h : WRow w l (.slice ao n cap)) : (ao = none → n = 0) ∧ ∀ ad, ao = some ad → ∀ j u, (w5s l)[j]? = some u → w.cell? (ad.add j) = some u := by
  obtain ⟨ao', cap', e, h1, h2, hc⟩ := h
  simp only [Value.slice.injEq] at e
  obtain ⟨rfl, rfl, rfl⟩ := e
  refine ⟨fun hn => ?_, fun ad had j u hj => ?_⟩
  · cases hl : l with
    | nil => rfl
    | cons x r =>
      obtain ⟨g, o, e, -⟩ := hc 0 x (by rw [hl]; rfl)
      rw [hn] at e; cases e
  · have hjl : j < l.length * 5 := by rw [← w5s_len]; exact (List.getElem?_eq_some_iff.1 hj).1
    have hi : j / 5 < l.length := by omega
    obtain ⟨g, o, e, c0, c1, c2, c3, c4⟩ := hc (j / 5) _ (List.getElem?_eq_getElem hi)
    rw [had] at e
    cases e
    rw [wadd]
    have hx := w5s_at l (j / 5) (j % 5) _ (List.getElem?_eq_getElem hi) (by omega)
    rw [show j / 5 * 5 + j % 5 = j by omega, hj] at hx
    have hr : j % 5 = 0 ∨ j % 5 = 1 ∨ j % 5 = 2 ∨ j % 5 = 3 ∨ j % 5 = 4 := by omega
    rcases hr with hr | hr | hr | hr | hr <;> rw [hr] at hx <;> simp [W5.cells] at hx <;> subst hx
    · rw [show o + j = o + j / 5 * 5 by omega]; exact c0
    · rw [show o + j = o + j / 5 * 5 + 1 by omega]; exact c1
    · rw [show o + j = o + j / 5 * 5 + 2 by omega]; exact c2
    · rw [show o + j = o + j / 5 * 5 + 3 by omega]; exact c3
    · rw [show o + j = o + j / 5 * 5 + 4 by omega]; exact c4
/-- What is left of a row from place k on. -/
theorem wsl_from (ao : Option Addr) (n cap k : Nat) (h : k ≤ n) (W : World) : (Instr.slice 22 (.slice ao n cap) (some (.int .i64 (k : Int))) none none).run Try.prog W = .ok (sliced ao k n cap 5) W := by
  rw [run_slice_l (P := Try.prog) W 22 ao n cap (by rw [elemWant]; exact Try.underlying22) .i64 k (by omega) (by omega), sizeWant]
  rfl
theorem WRow.drop {w : World} {l : List W5} {ao : Option Addr} {n cap : Nat} (h : WRow w l (.slice ao n cap)) (k : Nat) (hk : k ≤ l.length) : WRow w (l.drop k) (sliced ao k n cap 5) := by
  obtain ⟨ao', cap', e, h1, h2, hc⟩ := h
  simp only [Value.slice.injEq] at e
  obtain ⟨rfl, rfl, rfl⟩ := e
  have hl : (l.drop k).length = l.length - k := List.length_drop ..
  refine ⟨if cap = k then ao else ao.map (·.add (k * 5)), cap - k, by rw [hl]; rfl, by omega, by omega, fun i u hu => ?_⟩
  rw [List.getElem?_drop] at hu
  obtain ⟨g, o, e, h3⟩ := hc (k + i) u hu
  have hki : k + i < l.length := (List.getElem?_eq_some_iff.1 hu).1
  subst e
  refine ⟨g, o + k * 5, by rw [if_neg (by omega), Option.map_some, wadd], ?_⟩
  rw [show o + k * 5 + i * 5 = o + (k + i) * 5 by rw [Nat.add_mul]; omega]
  exact h3
theorem wsl_take (ao : Option Addr) (n cap k : Nat) (h : k ≤ cap) (W : World) : (Instr.slice 22 (.slice ao n cap) none (some (.int .i64 (k : Int))) none).run Try.prog W = .ok (.slice ao k cap) W := by
  rw [run_slice_h (P := Try.prog) W 22 ao n cap (by rw [elemWant]; exact Try.underlying22) .i64 k (by omega) (by omega), sizeWant]
  cases ao with
  | none => simp [Result.andThen, sliced]
  | some a =>
    obtain ⟨g, o, p⟩ := a
    simp only [Result.andThen, sliced, Int.toNat_natCast, Nat.sub_zero, Nat.zero_mul]
    have e : (⟨g, o, p⟩ : Addr).add 0 = ⟨g, o, p⟩ := by unfold Addr.add; split <;> simp_all
    simp [e]
/-- Byte by byte below. -/
def ltS (a b : ByteArray) : Bool := Op.bytesLess a.toList b.toList
/-- Does y stand ahead of x in Top? -/
def befW (l : List W5) (x y : W5) : Bool := decide (depthL l y.name < depthL l x.name) || (depthL l y.name == depthL l x.name && ltS y.name x.name)
def insW (l : List W5) (out : List W5) (x : W5) : List W5 := out.takeWhile (befW l x) ++ [x] ++ out.dropWhile (befW l x)
def topTo (l : List W5) (i : Nat) : List W5 := (l.take i).foldl (insW l) []
def topL (l : List W5) : List W5 := l.foldl (insW l) []
theorem topTo_all (l : List W5) : topTo l l.length = topL l := by unfold topTo topL; rw [List.take_length]
theorem topTo_step {l : List W5} {i : Nat} {x : W5} (hx : l[i]? = some x) : topTo l (i + 1) = insW l (topTo l i) x := by
  unfold topTo
  rw [List.take_add_one, hx]
  simp
theorem insW_len (l out : List W5) (x : W5) : (insW l out x).length = out.length + 1 := by
  unfold insW
  have h := congrArg List.length (List.takeWhile_append_dropWhile (p := befW l x) (l := out))
  simp only [List.length_append, List.length_cons, List.length_nil] at h ⊢
  omega
theorem topTo_len (l : List W5) : ∀ i, i ≤ l.length → (topTo l i).length = i
  | 0, _ => by simp [topTo]
  | i + 1, h => by
    rw [topTo_step (List.getElem?_eq_getElem (by omega : i < l.length)), insW_len, topTo_len l i (by omega)]
theorem while_take {P : W5 → Bool} : ∀ {out : List W5} {j : Nat}, (∀ k y, k < j → out[k]? = some y → P y = true) → (∀ y, out[j]? = some y → P y = false) → out.takeWhile P = out.take j ∧ out.dropWhile P = out.drop j
  | [], j, _, _ => by simp
  | a :: out, 0, _, h => by
    have := h a rfl
    simp [this]
  | a :: out, j + 1, h, h2 => by
    have h0 := h 0 a (by omega) rfl
    have ih := while_take (P := P) (out := out) (j := j) (fun k y hk hy => h (k + 1) y (by omega) (by simpa using hy)) (fun y hy => h2 y (by simpa using hy))
    simp only [List.takeWhile_cons, List.dropWhile_cons, h0, if_true, List.take_succ_cons, List.drop_succ_cons, ih.1, ih.2, and_self]
theorem own_lower {w : World} {B B' e z n : Nat} {v : Value} {xs : List Value} (h : w.ownsRow B e z v n xs) (hB : B' ≤ B) : w.ownsRow B' e z v n xs := by
  refine ⟨h.1, ?_⟩
  rcases h.2 with hn | ⟨g, cap, cur, rfl, hbg, hg, r⟩
  · exact .inl hn
  · exact .inr ⟨g, cap, cur, rfl, by omega, hg, r⟩
theorem info_want : (Try.prog.info? 39).map (fun i => (i.zero, i.size, i.bytes)) = some (some (.agg #[.string ⟨#[]⟩, .string ⟨#[]⟩, .int .i64 0, .int .i64 0, .int .i64 0]), 5, 56) := by kernel_rfl
theorem info_partsT {t : TypeId} {z : Value} {s b : Nat} (h : (Try.prog.info? t).map (fun i => (i.zero, i.size, i.bytes)) = some (some z, s, b)) : ∃ i, Try.prog.info? t = some i ∧ i.zero = some z ∧ i.size = s ∧ i.bytes = b := by
  obtain ⟨i, hi, h⟩ := Option.map_eq_some_iff.1 h
  simp only [Prod.mk.injEq] at h
  exact ⟨i, hi, h.1, h.2.1, h.2.2⟩
end Go.Proofs.Ytmiadhcmhnjmfaa
