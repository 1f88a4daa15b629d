/- What the document's text reads: the steps of partsTo. -/
import Derived.Test.YtedcdibabdamcaaDoorLexO
namespace Go.Proofs.YtedcdibabdamcaaDoor
open Go.RowKit
set_option linter.unusedVariables false
set_option linter.unusedSimpArgs false

theorem byteOf_nat (c : UInt8) : byteOf (c.toNat : Int) = c := by
  unfold byteOf; simp
theorem tkB_at {s : ByteArray} {k : Nat} (hk : k < s.size) (c : Int) : tkB s k c = ((s[k].toNat : Int) == c) := by
  unfold tkB; rw [pk_in hk]; simp [hk]
theorem tkB_out {s : ByteArray} {k : Nat} (hk : ¬ k < s.size) (c : Int) : tkB s k c = false := by simp [tkB, hk]
theorem dollar_at {s : ByteArray} {k : Nat} (hk : k + 1 < s.size) : isAt s dollar k = (((s[k].toNat : Int) == 36) && ((s[k + 1].toNat : Int) == 123)) := by
  have e : (s.extract k (k + 2)).toList = [s[k], s[k + 1]] := by
    rw [ByteArray.toList_eq]
    apply List.ext_getElem
    · simp; omega
    · intro n h1 h2
      simp at h2
      match n, h2 with
      | 0, _ => simp; rfl
      | 1, _ => simp; rfl
  have e2 : dollar.toList = [36, 123] := by unfold dollar; simp only [ByteArray.toList_mk]
  unfold isAt
  rw [show dollar.size = 2 from rfl, e, e2, decide_eq_true (by omega)]
  rw [Bool.eq_iff_iff]
  simp only [Bool.true_and, beq_iff_eq, List.cons.injEq, and_true, Bool.and_eq_true]
  rw [← UInt8.toNat_inj, ← UInt8.toNat_inj]
  simp
  omega
theorem dollar_no {s : ByteArray} {k : Nat} (hk : ¬ k + 1 < s.size) : isAt s dollar k = false := by
  cases h : isAt s dollar k with
  | false => rfl
  | true => have := isAt_le h; have : dollar.size = 2 := rfl; omega
theorem dollar_not {s : ByteArray} {k : Nat} (hk : k < s.size) (h : (s[k].toNat : Int) ≠ 36) : isAt s dollar k = false := by
  by_cases h1 : k + 1 < s.size
  · rw [dollar_at h1]; simp [h]
  · exact dollar_no h1
variable {s : ByteArray} {k : Nat} {ps : List PartL} {pl : List UInt8}
theorem text_end (hk : ¬ k < s.size) : partsTo s k ps pl = none := by
  have hp : pk s k = 0 := by simp [pk, hk]
  rw [partsTo_eq, tkB_out hk, dollar_no (by omega), show charOk s k = false by simp [charOk, tkB_out hk, hp]]; rfl
theorem text_q (hk : k < s.size) (h : (s[k].toNat : Int) = 34) : partsTo s k ps pl = some (withPl ps pl, k + 1) := by
  rw [partsTo_eq, tkB_at hk, h]; rfl
theorem text_low (hk : k < s.size) (h : (s[k].toNat : Int) < 32) : partsTo s k ps pl = none := by
  have h1 : ((s[k].toNat : Int) == 34) = false := by simp; omega
  have h2 : ((s[k].toNat : Int) == 92) = false := by simp; omega
  rw [partsTo_eq, tkB_at hk, h1, dollar_not hk (by omega), show charOk s k = false by rw [charOk, tkB_at hk, h2, pk_in hk]; simp; omega]; rfl
theorem text_char (hk : k < s.size) (h0 : (s[k].toNat : Int) ≠ 34) (h2 : (s[k].toNat : Int) ≠ 92) (h1 : 32 ≤ (s[k].toNat : Int)) (h : isAt s dollar k = false) : partsTo s k ps pl = partsTo s (k + 1) ps (pl ++ [s[k]]) := by
  have g1 : ((s[k].toNat : Int) == 34) = false := by simpa using h0
  have g2 : ((s[k].toNat : Int) == 92) = false := by simpa using h2
  have c1 : charOk s k = true := by rw [charOk, tkB_at hk, g2, pk_in hk]; simpa using h1
  have c2 : charTo s k = k + 1 := by rw [charTo, tkB_at hk, g2, rdTo_in hk]; rfl
  have c3 : charC s k = (s[k].toNat : Int) := by rw [charC, tkB_at hk, g2, pk_in hk]; rfl
  rw [partsTo_eq, tkB_at hk, g1, h, c1, c2, c3, byteOf_nat]; rfl
theorem text_esc_end (hk : k < s.size) (h : (s[k].toNat : Int) = 92) (hk1 : ¬ k + 1 < s.size) : partsTo s k ps pl = none := by
  have hp : pk s (k + 1) = 0 := by simp [pk, hk1]
  have c1 : charOk s k = false := by rw [charOk, tkB_at hk, h, hp]; rfl
  rw [partsTo_eq, tkB_at hk, h, dollar_no hk1, c1]; rfl
theorem text_esc_bad (hk : k < s.size) (h : (s[k].toNat : Int) = 92) (hk1 : k + 1 < s.size) (a : (s[k + 1].toNat : Int) ≠ 34) (b : (s[k + 1].toNat : Int) ≠ 92) (c : (s[k + 1].toNat : Int) ≠ 36) (d : (s[k + 1].toNat : Int) ≠ 110) : partsTo s k ps pl = none := by
  have c1 : charOk s k = false := by rw [charOk, tkB_at hk, h, pk_in hk1]; simp [escOk, a, b, c, d]
  rw [partsTo_eq, tkB_at hk, h, dollar_not hk (by omega), c1]; rfl
theorem text_esc (hk : k < s.size) (h : (s[k].toNat : Int) = 92) (hk1 : k + 1 < s.size) (a : (s[k + 1].toNat : Int) = 34 ∨ (s[k + 1].toNat : Int) = 92 ∨ (s[k + 1].toNat : Int) = 36) : partsTo s k ps pl = partsTo s (k + 2) ps (pl ++ [s[k + 1]]) := by
  have c1 : charOk s k = true := by rw [charOk, tkB_at hk, h, pk_in hk1]; rcases a with a | a | a <;> rw [a] <;> rfl
  have c2 : charTo s k = k + 2 := by rw [charTo, tkB_at hk, h, rdTo_in hk1]; rfl
  have c3 : charC s k = (s[k + 1].toNat : Int) := by rw [charC, tkB_at hk, h, pk_in hk1]; simp [escC, a]
  rw [partsTo_eq, tkB_at hk, h, dollar_not hk (by omega), c1, c2, c3, byteOf_nat]; rfl
theorem text_esc_n (hk : k < s.size) (h : (s[k].toNat : Int) = 92) (hk1 : k + 1 < s.size) (a : (s[k + 1].toNat : Int) = 110) : partsTo s k ps pl = partsTo s (k + 2) ps (pl ++ [10]) := by
  have c1 : charOk s k = true := by rw [charOk, tkB_at hk, h, pk_in hk1, a]; rfl
  have c2 : charTo s k = k + 2 := by rw [charTo, tkB_at hk, h, rdTo_in hk1]; rfl
  have c3 : charC s k = 10 := by rw [charC, tkB_at hk, h, pk_in hk1, a]; rfl
  rw [partsTo_eq, tkB_at hk, h, dollar_not hk (by omega), c1, c2, c3]; rfl
theorem text_ref_no (hk : k < s.size) (h : (s[k].toNat : Int) = 36) (h2 : isAt s dollar k = true) (hr : refB s (k + 2) = false) : partsTo s k ps pl = none := by
  rw [partsTo_eq, tkB_at hk, h, h2, hr]; rfl
theorem text_ref (hk : k < s.size) (h : (s[k].toNat : Int) = 36) (h2 : isAt s dollar k = true) (hr : refB s (k + 2) = true) : partsTo s k ps pl = partsTo s (refTo s (k + 2)) (withPl ps pl ++ [(true, s.extract (k + 2) (refTo s (k + 2) - 1))]) [] := by
  have e : refTo s (k + 2) = refMid s (k + 2) + 1 := by
    have h := hr
    unfold refB at h
    rw [Bool.and_eq_true] at h
    have e : refTo s (k + 2) = tkTo s (refMid s (k + 2)) 125 := by simp [refTo, h.1]
    rw [e, tkTo_yes h.2]
  rw [partsTo_eq, tkB_at hk, h, h2, hr, e]; rfl

theorem own_len {w : World} {B e z n : Nat} {v : Value} {xs : List Value} (h : w.ownsRow B e z v n xs) : ∃ ao cap, v = .slice ao n cap := by
  rcases h.2 with ⟨rfl, h0⟩ | ⟨g, cap, cur, rfl, _⟩
  · exact ⟨_, _, by rw [h0]⟩
  · exact ⟨_, _, rfl⟩
theorem own_shape' {w : World} {B e z n : Nat} {v : Value} {xs : List Value} (h : w.ownsRow B e z v n xs) (hn : n ≠ 0) : ∃ g cap, v = .slice (some ⟨g, 0, none⟩) n cap := by
  rcases h.2 with ⟨_, h0⟩ | ⟨g, cap, cur, rfl, _⟩
  · exact absurd h0 hn
  · exact ⟨g, cap, rfl⟩
/-- string(b). -/
theorem plain_conv {w : World} {B g cap : Nat} {l : List UInt8} (hl : PlainOwn w B (.slice (some ⟨g, 0, none⟩) l.length cap) l) :
    ∀ j (hj : j < l.length), w.cell? ((⟨g, 0, none⟩ : Addr).add j) = some (.int .u8 (l[j].toNat : Int)) := by
  intro j hj
  refine World.ownsRow.cells hl (g := g) rfl j _ ?_
  simp [byteVals, hj]
end Go.Proofs.YtedcdibabdamcaaDoor
