/- A text whose signs are marked. -/
import Derived.Test.YtphpndmcfmicbaaDoorLexS
namespace Go.Proofs.YtphpndmcfmicbaaDoor
open Go.RowKit
set_option linter.unusedVariables false
set_option linter.unusedSimpArgs false

def mk (c : UInt8) : List UInt8 := if c = 34 ∨ c = 92 ∨ c = 36 then [92, c] else if c = 10 then [92, 110] else [c]
def esc (l : List UInt8) : List UInt8 := l.flatMap mk
def lowC (c : UInt8) : Bool := decide (c.toNat < 32) && decide (c ≠ 10)
def lowL (l : List UInt8) : Bool := l.any lowC
def quoted (l : List UInt8) : ByteArray := ⟨(34 :: (esc l ++ [34])).toArray⟩
theorem drop_at {s : ByteArray} {k : Nat} {x : UInt8} {r : List UInt8} (h : s.data.toList.drop k = x :: r) : ∃ hk : k < s.size, s[k] = x ∧ s.data.toList.drop (k + 1) = r := by
  have hk : k < s.data.toList.length := by
    apply Nat.lt_of_not_le
    intro h2
    rw [List.drop_eq_nil_of_le h2] at h
    simp at h
  have hk' : k < s.size := by simpa using hk
  rw [List.drop_eq_getElem_cons hk] at h
  simp only [List.cons.injEq] at h
  exact ⟨hk', h.1, h.2⟩
theorem ne_of {c d : UInt8} (h : c ≠ d) : (c.toNat : Int) ≠ (d.toNat : Int) := by
  intro e; apply h; apply UInt8.toNat_inj.1; omega
theorem parts_esc {s : ByteArray} : ∀ (l : List UInt8) (k : Nat) (pl : List UInt8), s.data.toList.drop k = esc l ++ [34] →
    partsTo s k [] pl = if lowL l then none else some (withPl [] (pl ++ l), s.size) := by
  intro l
  induction l with
  | nil =>
    intro k pl h
    obtain ⟨hk, hx, hr⟩ := drop_at (x := 34) (r := []) h
    have hs : s.data.toList.length ≤ k + 1 := List.drop_eq_nil_iff.1 hr
    rw [text_q hk (by rw [hx]; rfl)]
    have : k + 1 = s.size := by simp at hs; omega
    simp [lowL, this]
  | cons c r ih =>
    intro k pl h
    have e : esc (c :: r) = mk c ++ esc r := by simp [esc]
    rw [e, List.append_assoc] at h
    by_cases h1 : c = 34 ∨ c = 92 ∨ c = 36
    · have em : mk c = [92, c] := by simp [mk, h1]
      rw [em] at h
      obtain ⟨hk, hx, hr⟩ := drop_at (x := 92) (r := c :: (esc r ++ [34])) h
      obtain ⟨hk1, hx1, hr1⟩ := drop_at hr
      have hc : (s[k + 1].toNat : Int) = 34 ∨ (s[k + 1].toNat : Int) = 92 ∨ (s[k + 1].toNat : Int) = 36 := by
        rw [hx1]; rcases h1 with rfl | rfl | rfl
        · exact .inl rfl
        · exact .inr (.inl rfl)
        · exact .inr (.inr rfl)
      rw [text_esc hk (by rw [hx]; rfl) hk1 hc, ih _ _ hr1, hx1]
      have hl : lowC c = false := by rcases h1 with rfl | rfl | rfl <;> decide
      simp [lowL, hl]
    · by_cases h10 : c = 10
      · have em : mk c = [92, 110] := by simp [mk, h10]
        rw [em] at h
        obtain ⟨hk, hx, hr⟩ := drop_at (x := 92) (r := 110 :: (esc r ++ [34])) h
        obtain ⟨hk1, hx1, hr1⟩ := drop_at hr
        rw [text_esc_n hk (by rw [hx]; rfl) hk1 (by rw [hx1]; rfl), ih _ _ hr1]
        have hl : lowC c = false := by rw [h10]; decide
        subst h10
        simp [lowL, hl]
      · have em : mk c = [c] := by simp [mk, h1, h10]
        rw [em] at h
        obtain ⟨hk, hx, hr⟩ := drop_at (x := c) (r := esc r ++ [34]) h
        have n34 : c ≠ 34 := fun e => h1 (.inl e)
        have n92 : c ≠ 92 := fun e => h1 (.inr (.inl e))
        have n36 : c ≠ 36 := fun e => h1 (.inr (.inr e))
        by_cases hlow : c.toNat < 32
        · have hl : lowC c = true := by simp [lowC, hlow, h10]
          rw [text_low hk (by rw [hx]; omega)]
          simp [lowL, hl]
        · have hl : lowC c = false := by simp [lowC, hlow]
          rw [text_char hk (by rw [hx]; exact ne_of n34) (by rw [hx]; exact ne_of n92) (by rw [hx]; omega) (dollar_not hk (by rw [hx]; exact ne_of n36)), ih _ _ hr, hx]
          simp [lowL, hl]
theorem lex_quoted (l : List UInt8) (h6 : (quoted l).size ≤ 6000) :
    (lowL l = true → lexE (quoted l) = 5) ∧ (lowL l = false → lexE (quoted l) = 0 ∧ lexT (quoted l) = [⟨2, ⟨#[]⟩, 0, withPl [] l, 0⟩, ⟨0, ⟨#[]⟩, 0, [], (quoted l).size⟩]) := by
  have hd0 : (quoted l).data.toList.drop 0 = 34 :: (esc l ++ [34]) := by simp [quoted]
  obtain ⟨hk, hx, hr⟩ := drop_at hd0
  have hp : pk (quoted l) 0 = 34 := by rw [pk_in hk, hx]; rfl
  have hs : skipTo (quoted l) 0 = 0 := skipTo_stop hk (by rw [hp]; omega) (by rw [hp]; omega) (by rw [hp]; omega)
  have ht := tok_text hp
  have hpp := parts_esc l 1 [] hr
  rw [List.nil_append] at hpp
  have hn : ¬ 6000 < (quoted l).size := by omega
  constructor
  · intro hl
    rw [Nat.zero_add, hpp, hl] at ht
    have hL : lexTo (quoted l) (skipTo (quoted l) 0) [] = none := by rw [hs, lexTo_none hk ht]
    unfold lexE
    rw [if_neg hn, hL]
  · intro hl
    rw [Nat.zero_add, hpp, hl] at ht
    have hL : lexTo (quoted l) (skipTo (quoted l) 0) [] = some [⟨2, ⟨#[]⟩, 0, withPl [] l, 0⟩] := by
      rw [hs, lexTo_step hk ht, skipTo_end (Nat.lt_irrefl _), lexTo_end (Nat.lt_irrefl _)]; rfl
    unfold lexE lexT
    rw [if_neg hn, if_neg hn, hL]
    exact ⟨rfl, rfl⟩
theorem esc_len : ∀ l : List UInt8, (esc l).length ≤ 2 * l.length := by
  intro l
  induction l with
  | nil => simp [esc]
  | cons c r ih =>
    have e : esc (c :: r) = mk c ++ esc r := by simp [esc]
    have hm : (mk c).length ≤ 2 := by unfold mk; split <;> (try split) <;> simp
    rw [e]; simp; omega
end Go.Proofs.YtphpndmcfmicbaaDoor
