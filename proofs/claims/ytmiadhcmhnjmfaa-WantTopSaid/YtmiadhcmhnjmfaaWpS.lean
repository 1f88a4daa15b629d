/- The library's stable sort, pure: places exchanged, turned about, merged. -/
import Derived.Test.YtmiadhcmhnjmfaaBase
namespace Go.Proofs.Ytmiadhcmhnjmfaa
set_option linter.unusedVariables false
set_option linter.unusedSimpArgs false
/-- Places i and j exchanged. -/
def swF {α : Type} (f : Nat → α) (i j : Nat) : Nat → α := fun k => if k = i then f j else if k = j then f i else f k
/-- n places from a on exchanged with those from b on. -/
def srF {α : Type} (f : Nat → α) (a b n : Nat) : Nat → α := fun k => if a ≤ k ∧ k < a + n then f (k + (b - a)) else if b ≤ k ∧ k < b + n then f (k - (b - a)) else f k
/-- The places from a to b turned, so that what was at m comes first. -/
def rotF {α : Type} (f : Nat → α) (a m b : Nat) : Nat → α := fun k => if a ≤ k ∧ k < a + (b - m) then f (k + (m - a)) else if a + (b - m) ≤ k ∧ k < b then f (k - (b - m)) else f k
theorem srF_zero {α : Type} (f : Nat → α) (a b : Nat) : srF f a b 0 = f := by
  funext k; unfold srF; rw [if_neg (by omega), if_neg (by omega)]
theorem srF_step {α : Type} (f : Nat → α) (a b i : Nat) (h : a + i < b) : swF (srF f a b i) (a + i) (b + i) = srF f a b (i + 1) := by
  funext k
  unfold swF srF
  by_cases h1 : k = a + i
  · subst h1
    rw [if_pos rfl, if_neg (by omega), if_neg (by omega), if_pos (by omega)]; congr 1 <;> omega
  · rw [if_neg h1]
    by_cases h2 : k = b + i
    · subst h2
      rw [if_pos rfl, if_neg (by omega), if_neg (by omega), if_neg (by omega), if_pos (by omega)]; congr 1 <;> omega
    · rw [if_neg h2]
      by_cases h3 : a ≤ k ∧ k < a + i
      · rw [if_pos h3, if_pos (by omega)]
      · rw [if_neg h3]
        by_cases h4 : b ≤ k ∧ k < b + i
        · rw [if_pos h4, if_neg (by omega), if_pos (by omega)]
        · rw [if_neg h4, if_neg (by omega), if_neg (by omega)]
/-- i places ahead of m, j from m on. -/
theorem rot_more {α : Type} (g : Nat → α) (m i j : Nat) (hi : i ≤ m) (h : j < i) : rotF g (m - i) m (m + j) = rotF (srF g (m - i) m j) (m - (i - j)) m (m + j) := by
  funext k
  unfold rotF srF
  by_cases h1 : m - i ≤ k ∧ k < m - i + (m + j - m)
  · rw [if_pos h1, if_neg (by omega), if_neg (by omega), if_pos (by omega)]
  · rw [if_neg h1]
    by_cases h2 : m - i + (m + j - m) ≤ k ∧ k < m + j
    · rw [if_pos h2]
      by_cases h3 : k < m - i + 2 * j
      · rw [if_pos (by omega), if_neg (by omega), if_pos (by omega)]; congr 1 <;> omega
      · rw [if_neg (by omega), if_pos (by omega), if_neg (by omega), if_neg (by omega)]
    · rw [if_neg h2, if_neg (by omega), if_neg (by omega), if_neg (by omega), if_neg (by omega)]
theorem rot_less {α : Type} (g : Nat → α) (m i j : Nat) (hi : i ≤ m) (h : i < j) : rotF g (m - i) m (m + j) = rotF (srF g (m - i) (m + j - i) i) (m - i) m (m + (j - i)) := by
  funext k
  unfold rotF srF
  by_cases h1 : m - i ≤ k ∧ k < m - i + (m + j - m)
  · rw [if_pos h1]
    by_cases h2 : k < m - i + (j - i)
    · rw [if_pos (by omega), if_neg (by omega), if_neg (by omega)]
    · rw [if_neg (by omega), if_pos (by omega), if_pos (by omega)]; congr 1 <;> omega
  · rw [if_neg h1]
    by_cases h2 : m - i + (m + j - m) ≤ k ∧ k < m + j
    · rw [if_pos h2, if_neg (by omega), if_neg (by omega), if_neg (by omega), if_pos (by omega)]; congr 1 <;> omega
    · rw [if_neg h2, if_neg (by omega), if_neg (by omega), if_neg (by omega), if_neg (by omega)]
theorem rot_same {α : Type} (g : Nat → α) (m i : Nat) (hi : i ≤ m) : rotF g (m - i) m (m + i) = srF g (m - i) m i := by
  funext k
  unfold rotF srF
  have e1 : m + i - m = i := by omega
  have e2 : m - i + i = m := by omega
  have e3 : m - (m - i) = i := by omega
  rw [e1, e2, e3]
/-- f' is f, but for places from a to b, which are exchanged among themselves. -/
def PermF {α : Type} (a b : Nat) (f f' : Nat → α) : Prop := ∃ σ τ : Nat → Nat, (∀ k, σ (τ k) = k) ∧ (∀ k, τ (σ k) = k) ∧ (∀ k, ¬ (a ≤ k ∧ k < b) → σ k = k) ∧ ∀ k, f' k = f (σ k)
section
variable {α : Type} {a b : Nat} {f g h : Nat → α}
theorem PermF.refl (a b : Nat) (f : Nat → α) : PermF a b f f := ⟨id, id, fun _ => rfl, fun _ => rfl, fun _ _ => rfl, fun _ => rfl⟩
theorem PermF.trans (h1 : PermF a b f g) (h2 : PermF a b g h) : PermF a b f h := by
  obtain ⟨s, t, h3, h4, h5, h6⟩ := h1
  obtain ⟨s', t', k3, k4, k5, k6⟩ := h2
  refine ⟨fun k => s (s' k), fun k => t' (t k), fun k => ?_, fun k => ?_, fun k hk => ?_, fun k => ?_⟩
  · show s (s' (t' (t k))) = k; rw [k3, h3]
  · show t' (t (s (s' k))) = k; rw [h4, k4]
  · show s (s' k) = k; rw [k5 k hk, h5 k hk]
  · rw [k6, h6]
theorem PermF.mono (h1 : PermF a b f g) {a' b' : Nat} (ha : a' ≤ a) (hb : b ≤ b') : PermF a' b' f g := by
  obtain ⟨s, t, h3, h4, h5, h6⟩ := h1
  exact ⟨s, t, h3, h4, fun k hk => h5 k (by omega), h6⟩
theorem PermF.out (h1 : PermF a b f g) {k : Nat} (hk : ¬ (a ≤ k ∧ k < b)) : g k = f k := by
  obtain ⟨s, t, h3, h4, h5, h6⟩ := h1
  rw [h6, h5 k hk]
theorem PermF.mem (h1 : PermF a b f g) {k : Nat} (ha : a ≤ k) (hb : k < b) : ∃ k', a ≤ k' ∧ k' < b ∧ g k = f k' := by
  obtain ⟨s, t, h3, h4, h5, h6⟩ := h1
  refine ⟨s k, ?_⟩
  by_cases hk : a ≤ s k ∧ s k < b
  · exact ⟨hk.1, hk.2, h6 k⟩
  · have h7 := h5 (s k) hk
    have h8 := congrArg t h7
    rw [h4, h4] at h8
    rw [h8] at hk
    exact absurd ⟨ha, hb⟩ hk
theorem PermF.sw {i j : Nat} (hi : a ≤ i ∧ i < b) (hj : a ≤ j ∧ j < b) : PermF a b f (swF f i j) := by
  have key : ∀ k, (if (if k = i then j else if k = j then i else k) = i then j else if (if k = i then j else if k = j then i else k) = j then i else (if k = i then j else if k = j then i else k)) = k := by
    intro k
    by_cases h1 : k = i
    · subst h1
      by_cases h2 : j = k
      · simp [h2]
      · simp [h2]
    · by_cases h2 : k = j
      · subst h2; simp [h1]
      · simp [h1, h2]
  refine ⟨fun k => if k = i then j else if k = j then i else k, fun k => if k = i then j else if k = j then i else k, key, key, fun k hk => ?_, fun k => ?_⟩
  · show (if k = i then j else if k = j then i else k) = k
    rw [if_neg (by omega), if_neg (by omega)]
  · unfold swF
    by_cases h1 : k = i
    · simp [h1]
    · by_cases h2 : k = j
      · subst h2; simp [h1]
      · simp [h1, h2]
theorem PermF.rot {m : Nat} (h1 : a ≤ m) (h2 : m ≤ b) : PermF a b f (rotF f a m b) := by
  refine ⟨fun k => if a ≤ k ∧ k < a + (b - m) then k + (m - a) else if a + (b - m) ≤ k ∧ k < b then k - (b - m) else k,
    fun k => if a ≤ k ∧ k < m then k + (b - m) else if m ≤ k ∧ k < b then k - (m - a) else k, fun k => ?_, fun k => ?_, fun k hk => ?_, fun k => ?_⟩
  · by_cases c1 : a ≤ k ∧ k < m
    · simp only [if_pos c1]
      rw [if_neg (by omega), if_pos (by omega)]; omega
    · by_cases c2 : m ≤ k ∧ k < b
      · simp only [if_neg c1, if_pos c2]
        rw [if_pos (by omega)]; omega
      · simp only [if_neg c1, if_neg c2]
        rw [if_neg (by omega), if_neg (by omega)]
  · by_cases c1 : a ≤ k ∧ k < a + (b - m)
    · simp only [if_pos c1]
      rw [if_neg (by omega), if_pos (by omega)]; omega
    · by_cases c2 : a + (b - m) ≤ k ∧ k < b
      · simp only [if_neg c1, if_pos c2]
        rw [if_pos (by omega)]; omega
      · simp only [if_neg c1, if_neg c2]
        rw [if_neg (by omega), if_neg (by omega)]
  · show (if a ≤ k ∧ k < a + (b - m) then k + (m - a) else if a + (b - m) ≤ k ∧ k < b then k - (b - m) else k) = k
    rw [if_neg (by omega), if_neg (by omega)]
  · unfold rotF
    by_cases c1 : a ≤ k ∧ k < a + (b - m)
    · simp [c1]
    · by_cases c2 : a + (b - m) ≤ k ∧ k < b
      · simp only [if_neg c1, if_pos c2]
      · simp only [if_neg c1, if_neg c2]
end
/-- What less is to be. -/
structure OrdB {α : Type} (lt : α → α → Bool) : Prop where
  asym : ∀ x y, lt x y = true → lt y x = false
  le : ∀ x y z, lt y x = false → lt z y = false → lt z x = false
section
variable {α : Type} {lt : α → α → Bool}
theorem OrdB.refl (H : OrdB lt) (x : α) : lt x x = false := by
  cases h : lt x x
  · rfl
  · have := H.asym x x h
    rw [h] at this; cases this
/-- No one is below one ahead of it, from a to b. -/
def SrtF (lt : α → α → Bool) (a b : Nat) (f : Nat → α) : Prop := ∀ p q, a ≤ p → p < q → q < b → lt (f q) (f p) = false
theorem SrtF.sub {a b a' b' : Nat} {f : Nat → α} (h : SrtF lt a b f) (h1 : a ≤ a') (h2 : b' ≤ b) : SrtF lt a' b' f := fun p q hp hpq hq => h p q (by omega) hpq (by omega)
theorem SrtF.one (a : Nat) {b : Nat} (f : Nat → α) (h : b ≤ a + 1) : SrtF lt a b f := fun p q hp hpq hq => by omega
theorem SrtF.congr {a b : Nat} {f g : Nat → α} (h : SrtF lt a b f) (e : ∀ k, a ≤ k → k < b → g k = f k) : SrtF lt a b g := fun p q hp hpq hq => by
  rw [e p hp (by omega), e q (by omega) hq]; exact h p q hp hpq hq
theorem SrtF.le (H : OrdB lt) {a b : Nat} {f : Nat → α} (h : SrtF lt a b f) {p q : Nat} (hp : a ≤ p) (hpq : p ≤ q) (hq : q < b) : lt (f q) (f p) = false := by
  rcases Nat.eq_or_lt_of_le hpq with e | e
  · subst e; exact H.refl _
  · exact h p q hp e hq
/-- An insertion under way: all but the one at j stand right up to i. -/
def InsF (lt : α → α → Bool) (a i j : Nat) (f : Nat → α) : Prop := (∀ p q, a ≤ p → p < q → q ≤ i → p ≠ j → q ≠ j → lt (f q) (f p) = false) ∧ ∀ q, j < q → q ≤ i → lt (f q) (f j) = false
theorem InsF.start {a i : Nat} {f : Nat → α} (h : SrtF lt a i f) : InsF lt a i i f := ⟨fun p q hp hpq hq h1 h2 => h p q hp hpq (by omega), fun q h1 h2 => by omega⟩
theorem InsF.step (H : OrdB lt) {a i j : Nat} {f : Nat → α} (h : InsF lt a i (j + 1) f) (ha : a ≤ j) (hj : j + 1 ≤ i) (hlt : lt (f (j + 1)) (f j) = true) : InsF lt a i j (swF f (j + 1) j) := by
  have e1 : swF f (j + 1) j j = f (j + 1) := by unfold swF; rw [if_neg (by omega), if_pos rfl]
  have e2 : swF f (j + 1) j (j + 1) = f j := by unfold swF; rw [if_pos rfl]
  have e3 : ∀ k, k ≠ j → k ≠ j + 1 → swF f (j + 1) j k = f k := fun k h1 h2 => by unfold swF; rw [if_neg h2, if_neg h1]
  refine ⟨fun p q hp hpq hq h1 h2 => ?_, fun q h1 h2 => ?_⟩
  · by_cases c1 : p = j + 1
    · subst c1
      rw [e2, e3 q h2 (by omega)]
      exact h.1 j q ha (by omega) hq (by omega) (by omega)
    · by_cases c2 : q = j + 1
      · subst c2
        rw [e2, e3 p h1 c1]
        exact h.1 p j hp (by omega) (by omega) c1 (by omega)
      · rw [e3 p h1 c1, e3 q h2 c2]
        exact h.1 p q hp hpq hq c1 c2
  · rw [e1]
    by_cases c : q = j + 1
    · subst c; rw [e2]; exact H.asym _ _ hlt
    · rw [e3 q (by omega) c]; exact h.2 q (by omega) h2
theorem InsF.done (H : OrdB lt) {a i j : Nat} {f : Nat → α} (h : InsF lt a i j f) (hj : j ≤ i) (hd : j = a ∨ (a < j ∧ lt (f j) (f (j - 1)) = false)) : SrtF lt a (i + 1) f := by
  intro p q hp hpq hq
  by_cases c1 : p = j
  · subst c1; exact h.2 q hpq (by omega)
  · by_cases c2 : q = j
    · subst c2
      rcases hd with e | ⟨e1, e2⟩
      · omega
      · by_cases c3 : p = q - 1
        · subst c3; exact e2
        · exact H.le _ _ _ (h.1 p (q - 1) hp (by omega) (by omega) c1 (by omega)) e2
    · exact h.1 p q hp hpq (by omega) c1 c2
/-- One ahead of a row: it is put where it belongs. -/
theorem ins_left (H : OrdB lt) {a i b : Nat} {f : Nat → α} (h : SrtF lt (a + 1) b f) (h1 : a + 1 ≤ i) (h2 : i ≤ b) (hl : i = a + 1 ∨ lt (f (i - 1)) (f a) = true) (hr : i = b ∨ lt (f i) (f a) = false) : SrtF lt a b (rotF f a (a + 1) i) := by
  have e1 : ∀ k, a ≤ k → k + 1 < i → rotF f a (a + 1) i k = f (k + 1) := fun k c1 c2 => by unfold rotF; rw [if_pos (by omega)]; congr 1 <;> omega
  have e2 : rotF f a (a + 1) i (i - 1) = f a := by unfold rotF; rw [if_neg (by omega), if_pos (by omega)]; congr 1 <;> omega
  have e3 : ∀ k, i ≤ k → rotF f a (a + 1) i k = f k := fun k c => by unfold rotF; rw [if_neg (by omega), if_neg (by omega)]
  have L : ∀ k, a + 1 ≤ k → k < i → lt (f a) (f k) = false := fun k c1 c2 => by
    rcases hl with e | e
    · omega
    · exact H.le _ _ _ (h.le H c1 (show k ≤ i - 1 by omega) (by omega)) (H.asym _ _ e)
  have R : ∀ k, i ≤ k → k < b → lt (f k) (f a) = false := fun k c1 c2 => by
    rcases hr with e | e
    · omega
    · exact H.le _ _ _ e (h.le H (show a + 1 ≤ i by omega) c1 c2)
  intro p q hp hpq hq
  by_cases c1 : p + 1 < i
  · rw [e1 p hp c1]
    by_cases c2 : q + 1 < i
    · rw [e1 q (by omega) c2]; exact h _ _ (by omega) (by omega) (by omega)
    · by_cases c3 : q = i - 1
      · subst c3; rw [e2]; exact L _ (by omega) c1
      · rw [e3 q (by omega)]; exact h _ _ (by omega) (by omega) hq
  · by_cases c3 : p = i - 1
    · subst c3; rw [e2, e3 q (by omega)]; exact R q (by omega) hq
    · rw [e3 p (by omega), e3 q (by omega)]; exact h _ _ (by omega) hpq hq
/-- One behind a row. -/
theorem ins_right (H : OrdB lt) {a i m : Nat} {f : Nat → α} (h : SrtF lt a m f) (h1 : a ≤ i) (h2 : i ≤ m) (hl : i = a ∨ lt (f m) (f (i - 1)) = false) (hr : i = m ∨ lt (f m) (f i) = true) : SrtF lt a (m + 1) (rotF f i m (m + 1)) := by
  have e1 : rotF f i m (m + 1) i = f m := by unfold rotF; rw [if_pos (by omega)]; congr 1 <;> omega
  have e2 : ∀ k, i < k → k ≤ m → rotF f i m (m + 1) k = f (k - 1) := fun k c1 c2 => by unfold rotF; rw [if_neg (by omega), if_pos (by omega)]; congr 1 <;> omega
  have e3 : ∀ k, k < i → rotF f i m (m + 1) k = f k := fun k c => by unfold rotF; rw [if_neg (by omega), if_neg (by omega)]
  have L : ∀ k, a ≤ k → k < i → lt (f m) (f k) = false := fun k c1 c2 => by
    rcases hl with e | e
    · omega
    · exact H.le _ _ _ (h.le H c1 (show k ≤ i - 1 by omega) (by omega)) e
  have R : ∀ k, i ≤ k → k < m → lt (f k) (f m) = false := fun k c1 c2 => by
    rcases hr with e | e
    · omega
    · exact H.le _ _ _ (H.asym _ _ e) (h.le H h1 c1 c2)
  intro p q hp hpq hq
  by_cases c1 : p < i
  · rw [e3 p c1]
    by_cases c2 : q < i
    · rw [e3 q c2]; exact h _ _ hp hpq (by omega)
    · by_cases c3 : q = i
      · subst c3; rw [e1]; exact L _ hp c1
      · rw [e2 q (by omega) (by omega)]; exact h _ _ hp (by omega) (by omega)
  · by_cases c3 : p = i
    · subst c3; rw [e1, e2 q (by omega) (by omega)]; exact R _ (by omega) (by omega)
    · rw [e2 p (by omega) (by omega), e2 q (by omega) (by omega)]; exact h _ _ (by omega) (by omega) (by omega)
/-- Two rows, cut at s and e and turned: what stands ahead is nowhere above what stands behind. -/
structure CutF (lt : α → α → Bool) (a s mid e b : Nat) (g : Nat → α) : Prop where
  p1 : SrtF lt a s g
  p2 : SrtF lt s mid g
  p3 : SrtF lt mid e g
  p4 : SrtF lt e b g
  cross : ∀ p q, a ≤ p → p < mid → mid ≤ q → q < b → lt (g q) (g p) = false
theorem cut_of (H : OrdB lt) {a m b s e : Nat} {f : Nat → α} (h1 : SrtF lt a m f) (h2 : SrtF lt m b f) (hsa : a ≤ s) (sm : s ≤ m) (me : m ≤ e) (eb : e ≤ b)
    (c1 : a < s → e < b → lt (f e) (f (s - 1)) = false) (c2 : s < m → m < e → lt (f s) (f (e - 1)) = false) : CutF lt a s (s + (e - m)) e b (rotF f s m e) := by
  have e0 : ∀ k, k < s → rotF f s m e k = f k := fun k c => by unfold rotF; rw [if_neg (by omega), if_neg (by omega)]
  have e1 : ∀ k, s ≤ k → k < s + (e - m) → rotF f s m e k = f (k + (m - s)) := fun k c d => by unfold rotF; rw [if_pos (by omega)]
  have e2 : ∀ k, s + (e - m) ≤ k → k < e → rotF f s m e k = f (k - (e - m)) := fun k c d => by unfold rotF; rw [if_neg (by omega), if_pos (by omega)]
  have e3 : ∀ k, e ≤ k → rotF f s m e k = f k := fun k c => by unfold rotF; rw [if_neg (by omega), if_neg (by omega)]
  refine ⟨fun p q hp hpq hq => ?_, fun p q hp hpq hq => ?_, fun p q hp hpq hq => ?_, fun p q hp hpq hq => ?_, fun p q hp hp2 hq hq2 => ?_⟩
  · rw [e0 p (by omega), e0 q hq]; exact h1 p q hp hpq (by omega)
  · rw [e1 p hp (by omega), e1 q (by omega) hq]; exact h2 _ _ (by omega) (by omega) (by omega)
  · rw [e2 p hp (by omega), e2 q (by omega) hq]; exact h1 _ _ (by omega) (by omega) (by omega)
  · rw [e3 p hp, e3 q (by omega)]; exact h2 p q (by omega) hpq hq
  · by_cases cp : p < s
    · rw [e0 p cp]
      by_cases cq : q < e
      · rw [e2 q hq cq]; exact h1 _ _ hp (by omega) (by omega)
      · rw [e3 q (by omega)]
        exact H.le _ _ _ (H.le _ _ _ (h1.le H hp (show p ≤ s - 1 by omega) (by omega)) (c1 (by omega) (by omega))) (h2.le H me (show e ≤ q by omega) hq2)
    · rw [e1 p (by omega) hp2]
      by_cases cq : q < e
      · rw [e2 q hq cq]
        exact H.le _ _ _ (H.le _ _ _ (h2.le H (by omega) (show p + (m - s) ≤ e - 1 by omega) (by omega)) (c2 (by omega) (by omega))) (h1.le H hsa (show s ≤ q - (e - m) by omega) (by omega))
      · rw [e3 q (by omega)]; exact h2 _ _ (by omega) (by omega) hq2
/-- Both halves in order: all of it is. -/
theorem cut_join {a mid b : Nat} {g g1 g2 : Nat → α} (hab : a ≤ mid) (hmb : mid ≤ b) (cross : ∀ p q, a ≤ p → p < mid → mid ≤ q → q < b → lt (g q) (g p) = false) (p1 : PermF a mid g g1) (s1 : SrtF lt a mid g1) (p2 : PermF mid b g1 g2) (s2 : SrtF lt mid b g2) : SrtF lt a b g2 ∧ PermF a b g g2 := by
  refine ⟨fun p q hp hpq hq => ?_, (p1.mono (Nat.le_refl _) hmb).trans (p2.mono hab (Nat.le_refl _))⟩
  by_cases c1 : q < mid
  · rw [p2.out (by omega), p2.out (by omega)]; exact s1 p q hp hpq c1
  · by_cases c2 : mid ≤ p
    · exact s2 p q c2 hpq hq
    · rw [p2.out (k := p) (by omega)]
      obtain ⟨k1, a1, a2, ea⟩ := p1.mem hp (show p < mid by omega)
      obtain ⟨k2, b1, b2, eb⟩ := p2.mem (show mid ≤ q by omega) hq
      rw [ea, eb, p1.out (by omega)]
      exact cross k1 k2 a1 a2 b1 b2
/-- Blocks of so many in order. -/
def BlkF (lt : α → α → Bool) (bs n : Nat) (f : Nat → α) : Prop := ∀ p q, p < q → q < n → p / bs = q / bs → lt (f q) (f p) = false
/-- Blocks merged as far as a. -/
def MrgF (lt : α → α → Bool) (bs a n : Nat) (f : Nat → α) : Prop := ∀ p q, p < q → q < n → (q < a → p / (2 * bs) = q / (2 * bs) → lt (f q) (f p) = false) ∧ (a ≤ p → p / bs = q / bs → lt (f q) (f p) = false)
def BsOK (bs : Nat) : Prop := bs = 20 ∨ bs = 40 ∨ bs = 80
theorem MrgF.start {bs n : Nat} {f : Nat → α} (h : BlkF lt bs n f) : MrgF lt bs 0 n f := fun p q hpq hq => ⟨fun c => by omega, fun _ c => h p q hpq hq c⟩
theorem MrgF.left {bs a n : Nat} {f : Nat → α} (hb : BsOK bs) (ha : a % (2 * bs) = 0) (h : MrgF lt bs a n f) (hn : a + bs ≤ n) : SrtF lt a (a + bs) f := fun p q hp hpq hq => (h p q hpq (by omega)).2 hp (by rcases hb with rfl | rfl | rfl <;> omega)
theorem MrgF.right {bs a n e : Nat} {f : Nat → α} (hb : BsOK bs) (ha : a % (2 * bs) = 0) (h : MrgF lt bs a n f) (hn : e ≤ n) (he : e ≤ a + 2 * bs) : SrtF lt (a + bs) e f := fun p q hp hpq hq => (h p q hpq (by omega)).2 (by omega) (by rcases hb with rfl | rfl | rfl <;> omega)
theorem MrgF.step {bs a n e : Nat} {f f' : Nat → α} (hb : BsOK bs) (ha : a % (2 * bs) = 0) (h : MrgF lt bs a n f) (he : e = a + 2 * bs) (hn : e ≤ n) (hp : PermF a e f f') (hs : SrtF lt a e f') : MrgF lt bs e n f' := by
  intro p q hpq hq
  refine ⟨fun c1 c2 => ?_, fun c1 c2 => ?_⟩
  · by_cases c3 : a ≤ p
    · exact hs p q c3 hpq c1
    · have c4 : q < a := by rcases hb with rfl | rfl | rfl <;> omega
      rw [hp.out (k := p) (by omega), hp.out (k := q) (by omega)]
      exact (h p q hpq hq).1 c4 c2
  · rw [hp.out (k := p) (by omega), hp.out (k := q) (by omega)]
    exact (h p q hpq hq).2 (by omega) c2
theorem MrgF.last {bs a n : Nat} {f f' : Nat → α} (hb : BsOK bs) (ha : a % (2 * bs) = 0) (h : MrgF lt bs a n f) (hn : n < a + 2 * bs) (hp : PermF a n f f') (hs : SrtF lt a n f') : BlkF lt (2 * bs) n f' := by
  intro p q hpq hq c2
  by_cases c3 : a ≤ p
  · exact hs p q c3 hpq hq
  · have c4 : q < a := by rcases hb with rfl | rfl | rfl <;> omega
    rw [hp.out (k := p) (by omega), hp.out (k := q) (by omega)]
    exact (h p q hpq hq).1 c4 c2
theorem MrgF.none {bs a n : Nat} {f : Nat → α} (hb : BsOK bs) (ha : a % (2 * bs) = 0) (h : MrgF lt bs a n f) (hn : n ≤ a + bs) : BlkF lt (2 * bs) n f := by
  intro p q hpq hq c2
  by_cases c3 : a ≤ p
  · exact (h p q hpq hq).2 c3 (by rcases hb with rfl | rfl | rfl <;> omega)
  · have c4 : q < a := by rcases hb with rfl | rfl | rfl <;> omega
    exact (h p q hpq hq).1 c4 c2
/-- Blocks of twenty, sorted one by one. -/
def TwtF (lt : α → α → Bool) (a : Nat) (f : Nat → α) : Prop := ∀ p q, p < q → q < a → p / 20 = q / 20 → lt (f q) (f p) = false
theorem TwtF.step {a n e : Nat} {f f' : Nat → α} (ha : a % 20 = 0) (h : TwtF lt a f) (he : e ≤ a + 20) (hp : PermF a e f f') (hs : SrtF lt a e f') : TwtF lt e f' := by
  intro p q hpq hq c
  by_cases c3 : a ≤ p
  · exact hs p q c3 hpq hq
  · have c4 : q < a := by omega
    rw [hp.out (k := p) (by omega), hp.out (k := q) (by omega)]
    exact h p q hpq c4 c
end
end Go.Proofs.Ytmiadhcmhnjmfaa
