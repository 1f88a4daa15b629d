/- Numbers: the decimal text of a number, and what Lex makes of it. -/
import Derived.Test.YtedcdibabdamcaaDoorLexO
namespace Go.Proofs.YtedcdibabdamcaaDoor
open Go.RowKit
set_option linter.unusedVariables false
set_option linter.unusedSimpArgs false

def dch (n : Nat) : UInt8 := UInt8.ofNat (48 + n % 10)
theorem dch_val (n : Nat) : (dch n).toNat = 48 + n % 10 := by
  unfold dch; rw [UInt8.toNat_ofNat']; omega
/-- The digits of u, ahead of those that are there. -/
def decAt : Nat → Nat → List UInt8 → List UInt8
  | 0, u, acc => dch u :: acc
  | n + 1, u, acc => if 10 ≤ u then decAt n (u / 10) (dch u :: acc) else dch u :: acc
theorem decAt_more : ∀ n m u acc, u ≤ n → u ≤ m → decAt n u acc = decAt m u acc := by
  intro n
  induction n with
  | zero => intro m u acc h1 h2; obtain rfl : u = 0 := by omega
            cases m <;> simp [decAt]
  | succ n ih =>
    intro m u acc h1 h2
    cases m with
    | zero => obtain rfl : u = 0 := by omega
              simp [decAt]
    | succ m =>
      simp only [decAt]
      split
      · exact ih m _ _ (by omega) (by omega)
      · rfl
def decTo (u : Nat) (acc : List UInt8) : List UInt8 := decAt u u acc
theorem decTo_step {u : Nat} {acc : List UInt8} (h : 10 ≤ u) : decTo u acc = decTo (u / 10) (dch u :: acc) := by
  unfold decTo
  rw [decAt_more u (u + 1) u acc (Nat.le_refl _) (Nat.le_succ _), decAt, if_pos h]
  exact decAt_more _ _ _ _ (by omega) (Nat.le_refl _)
theorem decTo_end {u : Nat} {acc : List UInt8} (h : ¬ 10 ≤ u) : decTo u acc = dch u :: acc := by
  unfold decTo
  rw [decAt_more u (u + 1) u acc (Nat.le_refl _) (Nat.le_succ _), decAt, if_neg h]
/-- The text of a number. -/
def decB (u : Nat) : ByteArray := ⟨(decTo u []).toArray⟩
theorem dec_num {u a : Nat} (h : a = 48 + u % 10) : 10 * (u / 10) + (a - 48) = u := by omega
def dfold (n : Nat) : List UInt8 → Nat
  | [] => n
  | c :: r => dfold (10 * n + (c.toNat - 48)) r
theorem dfold_ge : ∀ (l : List UInt8) n, n ≤ dfold n l := by
  intro l
  induction l with
  | nil => intro n; exact Nat.le_refl _
  | cons c r ih => intro n; exact Nat.le_trans (by omega) (ih (10 * n + (c.toNat - 48)))
theorem gol_step {c : UInt8} {r : List UInt8} {n : Nat} (h0 : 0 < n) (hb : ¬ 9223372036854775807 < 10 * n + (c.toNat - 48)) : gol false n (c :: r) = gol false (10 * n + (c.toNat - 48)) r := by
  have hn : ¬ (false = false ∧ n = 0) := by omega
  show (if 9223372036854775807 < 10 * n + (c.toNat - 48) then none else if false = false ∧ n = 0 then none else gol false (10 * n + (c.toNat - 48)) r) = _
  rw [if_neg hb, if_neg hn]
theorem gol_fold (M : Nat) (hM : M = 9223372036854775807) (l : List UInt8) : ∀ n, 0 < n → dfold n l ≤ M → gol false n l = some (dfold n l) := by
  induction l with
  | nil => intro n _ _; rfl
  | cons c r ih =>
    intro n h0 h
    have hg := dfold_ge r (10 * n + (c.toNat - 48))
    have h' : dfold (10 * n + (c.toNat - 48)) r ≤ M := h
    have hb : ¬ 9223372036854775807 < 10 * n + (c.toNat - 48) := by rw [← hM]; exact Nat.not_lt.2 (Nat.le_trans hg h')
    exact (gol_step h0 hb).trans (ih _ (by omega) h')
theorem dec_fold : ∀ k u, u ≤ k → ∀ acc, ∃ c r, decTo u acc = c :: r ∧ AllDig [c] ∧ (AllDig acc → AllDig r) ∧ dfold (c.toNat - 48) r = dfold u acc ∧ (0 < u → 48 < c.toNat) ∧ (u = 0 → c.toNat = 48 ∧ r = acc) ∧ r.length ≤ u + acc.length := by
  intro k
  induction k with
  | zero =>
    intro u hu acc
    obtain rfl : u = 0 := by omega
    have := dch_val 0
    refine ⟨dch 0, acc, decTo_end (by omega), ?_, fun h => h, by rw [this], fun h => by omega, fun _ => ⟨by omega, rfl⟩, by omega⟩
    intro x hx; simp at hx; subst hx; omega
  | succ k ih =>
    intro u hu acc
    by_cases h : 10 ≤ u
    · obtain ⟨c, r, e, h1, h2, h3, h4, h5, h6⟩ := ih (u / 10) (by omega) (dch u :: acc)
      have hd := dch_val u
      refine ⟨c, r, by rw [decTo_step h]; exact e, h1, fun ha => h2 ?_, ?_, fun _ => h4 (by omega), by omega, by simp at h6; omega⟩
      · intro x hx
        simp at hx
        rcases hx with rfl | hx
        · omega
        · exact ha x hx
      · have e2 : dfold (u / 10) (dch u :: acc) = dfold (10 * (u / 10) + ((dch u).toNat - 48)) acc := rfl
        rw [h3, e2, dec_num hd]
    · have hd := dch_val u
      refine ⟨dch u, acc, decTo_end h, ?_, fun h => h, by rw [show (dch u).toNat - 48 = u by omega], fun _ => by omega, fun _ => ⟨by omega, rfl⟩, by omega⟩
      intro x hx; simp at hx; subst hx; omega
theorem dec_dig (u : Nat) : AllDig (decTo u []) ∧ 0 < (decTo u []).length := by
  obtain ⟨c, r, e, h1, h2, _⟩ := dec_fold u u (Nat.le_refl _) []
  rw [e]
  refine ⟨?_, by simp⟩
  intro x hx
  simp at hx
  rcases hx with rfl | hx
  · exact h1 x (by simp)
  · exact h2 (by intro y hy; simp at hy) x hx
theorem gol_first {c : UInt8} {r : List UInt8} (hc : c.toNat ≤ 57) : gol true 0 (c :: r) = gol false (c.toNat - 48) r := by
  have hb : ¬ 9223372036854775807 < 10 * 0 + (c.toNat - 48) := by omega
  have hn : ¬ (true = false ∧ 0 = 0) := by simp
  have e : 10 * 0 + (c.toNat - 48) = c.toNat - 48 := by omega
  show (if 9223372036854775807 < 10 * 0 + (c.toNat - 48) then none else if true = false ∧ 0 = 0 then none else gol false (10 * 0 + (c.toNat - 48)) r) = _
  rw [if_neg hb, if_neg hn, e]
theorem gol_zero {c : UInt8} {r : List UInt8} (hc : c.toNat ≤ 57) : gol false 0 (c :: r) = none := by
  have hb : ¬ 9223372036854775807 < 10 * 0 + (c.toNat - 48) := by omega
  have hn : false = false ∧ 0 = 0 := by simp
  show (if 9223372036854775807 < 10 * 0 + (c.toNat - 48) then none else if false = false ∧ 0 = 0 then none else gol false (10 * 0 + (c.toNat - 48)) r) = _
  rw [if_neg hb, if_pos hn]
theorem gol_dec (M : Nat) (hM : M = 9223372036854775807) (u : Nat) (hu : u ≤ M) : gol true 0 (decTo u []) = some u := by
  obtain ⟨c, r, e, h1, h2, h3, h4, h5, h6⟩ := dec_fold u u (Nat.le_refl _) []
  have hc := h1 c (by simp)
  have h3 : dfold (c.toNat - 48) r = u := h3
  rw [e, gol_first hc.2]
  by_cases h0 : u = 0
  · obtain ⟨h7, rfl⟩ := h5 h0
    rw [h7, h0]; rfl
  · rw [gol_fold M hM r _ (by have := h4 (by omega); omega) (by rw [h3]; exact hu), h3]
theorem gol_nought (u : Nat) : gol true 0 (48 :: decTo u []) = none := by
  obtain ⟨c, r, e, h1, _⟩ := dec_fold u u (Nat.le_refl _) []
  have hc := h1 c (by simp)
  rw [gol_first (by decide), e]
  exact gol_zero hc.2
/-- A text of digits alone: its run, its token. -/
theorem dig_run {d : ByteArray} (hd : AllDig d.data.toList) : ∀ n k, d.size - k = n → k ≤ d.size → runTo digitB d k = d.size := by
  intro n
  induction n with
  | zero => intro k h1 h2; obtain rfl : k = d.size := by omega
            exact runTo_stop (fun h => absurd h (Nat.lt_irrefl _))
  | succ n ih =>
    intro k h1 h2
    have hk : k < d.size := by omega
    have hx := hd d[k] (by
      have : d.data.toList[k]'(by simpa using hk) = d[k] := rfl
      rw [← this]; exact List.getElem_mem _)
    rw [runTo_step hk (by rw [pk_in hk]; simp [digitB]; omega)]
    exact ih (k + 1) (by omega) hk
theorem dig_tok {d : ByteArray} (hd : AllDig d.data.toList) (hne : 0 < d.size) : digitB (pk d 0) = true ∧ skipTo d 0 = 0 ∧ tokAt d 0 = if numB d then some (⟨1, ⟨#[]⟩, numV d, [], 0⟩, d.size) else none := by
  have hx := hd d[0] (by
    have : d.data.toList[0]'(by simpa using hne) = d[0] := rfl
    rw [← this]; exact List.getElem_mem _)
  have hp := pk_in hne
  have h1 : digitB (pk d 0) = true := by rw [hp]; simp [digitB]; omega
  have h2 : startsB (pk d 0) = false := by rw [hp]; simp [startsB, letterB]; omega
  refine ⟨h1, skipTo_stop hne (by rw [hp]; omega) (by rw [hp]; omega) (by rw [hp]; omega), ?_⟩
  rw [tokAt, h2, h1, dig_run hd _ 0 rfl (Nat.zero_le _)]
  have e : d.extract 0 d.size = d := by simp
  rw [e]; rfl
theorem lex_dig {d : ByteArray} (hd : AllDig d.data.toList) (hne : 0 < d.size) (h6 : d.size ≤ 6000) :
    (numB d = true → lexE d = 0 ∧ lexT d = [⟨1, ⟨#[]⟩, numV d, [], 0⟩, ⟨0, ⟨#[]⟩, 0, [], d.size⟩]) ∧ (numB d = false → lexE d = 5) := by
  obtain ⟨h1, h2, h3⟩ := dig_tok hd hne
  have hn : ¬ 6000 < d.size := by omega
  constructor
  · intro hb
    rw [hb] at h3
    have hl : lexTo d (skipTo d 0) [] = some [⟨1, ⟨#[]⟩, numV d, [], 0⟩] := by
      rw [h2, lexTo_step hne h3, skipTo_end (Nat.lt_irrefl _), lexTo_end (Nat.lt_irrefl _)]; rfl
    unfold lexE lexT
    rw [if_neg hn, if_neg hn, hl]
    exact ⟨rfl, rfl⟩
  · intro hb
    rw [hb] at h3
    have hl : lexTo d (skipTo d 0) [] = none := by rw [h2, lexTo_none hne h3]
    unfold lexE
    rw [if_neg hn, hl]
theorem lex_dec (u : Nat) (hu : u ≤ 9223372036854775807) (h6 : (decB u).size ≤ 6000) : lexE (decB u) = 0 ∧ lexT (decB u) = [⟨1, ⟨#[]⟩, u, [], 0⟩, ⟨0, ⟨#[]⟩, 0, [], (decB u).size⟩] := by
  have hd := dec_dig u
  have hdl : (decB u).data.toList = decTo u [] := by simp [decB]
  have hne : 0 < (decB u).size := by have := hd.2; simpa [decB, ByteArray.size] using this
  have hg := gol_num (d := decB u) (by rw [hdl]; exact hd.1) hne
  rw [hdl, gol_dec _ rfl u hu] at hg
  have hl := lex_dig (d := decB u) (by rw [hdl]; exact hd.1) hne h6
  cases hb : numB (decB u) with
  | false => rw [hb] at hg; simp at hg
  | true =>
    rw [hb] at hg
    simp at hg
    obtain ⟨l1, l2⟩ := hl.1 hb
    exact ⟨l1, by rw [l2, ← hg]⟩
def noughtB (u : Nat) : ByteArray := ⟨#[48]⟩ ++ decB u
theorem lex_nought (u : Nat) (h6 : (noughtB u).size ≤ 6000) : lexE (noughtB u) = 5 := by
  have hd := dec_dig u
  have hdl : (noughtB u).data.toList = 48 :: decTo u [] := by simp [noughtB, decB, ByteArray.data_append]
  have ha : AllDig (noughtB u).data.toList := by
    rw [hdl]; intro x hx
    simp at hx
    rcases hx with rfl | hx
    · decide
    · exact hd.1 x hx
  have hne : 0 < (noughtB u).size := by
    have : (noughtB u).data.toList.length = (noughtB u).size := by simp
    rw [hdl] at this; simp at this; omega
  have hg := gol_num ha hne
  rw [hdl, gol_nought u] at hg
  cases hb : numB (noughtB u) with
  | false => exact (lex_dig ha hne h6).2 hb
  | true => rw [hb] at hg; simp at hg
theorem dec_len : ∀ n u acc, u < 10 ^ n → 0 < n → (decTo u acc).length ≤ n + acc.length := by
  intro n
  induction n with
  | zero => intro u acc h h0; omega
  | succ n ih =>
    intro u acc h _
    by_cases h10 : 10 ≤ u
    · rw [decTo_step h10]
      have h1 : u / 10 < 10 ^ n := by rw [Nat.pow_succ] at h; omega
      by_cases hn : n = 0
      · subst hn; simp at h1; omega
      · have := ih (u / 10) (dch u :: acc) h1 (by omega)
        simp at this; omega
    · rw [decTo_end h10]; simp; omega
theorem decB_size (u : Nat) (hu : u ≤ 9223372036854775807) : (decB u).size ≤ 19 := by
  have := dec_len 19 u [] (by have : (10:Nat) ^ 19 = 10000000000000000000 := by decide
                              omega) (by omega)
  simpa [decB, ByteArray.size] using this
def bigText : ByteArray := ⟨#[57, 50, 50, 51, 51, 55, 50, 48, 51, 54, 56, 53, 52, 55, 55, 53, 56, 48, 56]⟩
theorem bigE : lexE bigText = 5 := by kernel_rfl
end Go.Proofs.YtedcdibabdamcaaDoor
