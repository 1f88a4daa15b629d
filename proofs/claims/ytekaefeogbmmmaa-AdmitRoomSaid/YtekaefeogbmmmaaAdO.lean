/- The laws of admit by numbers as they come in. -/
import Derived.Test.YtekaefeogbmmmaaAdH
import Derived.Test.YtekaefeogbmmmaaAdI
import Derived.Test.YtekaefeogbmmmaaAdJ
import Derived.Test.YtekaefeogbmmmaaTrPu
namespace Go.Proofs.Ytekaefeogbmmmaa
open Go.RowKit
set_option linter.unusedVariables false
section
variable (w : World)
theorem law_admitmadeI (AC : AdmC) (RC : RelC) (xs ys : List Int) (nv mv : Value) (h : NumsRd .u8 w nv xs) (hr : ∀ x ∈ xs, 0 ≤ x ∧ x ≤ 255) (hl : xs.length ≤ maxLen) (h2 : NumsRd .u8 w mv ys) (hr2 : ∀ x ∈ ys, 0 ≤ x ∧ x ≤ 255) (hl2 : ys.length ≤ maxLen) : Calls Try.prog 4 #[nv, mv] w (Made (.bool true) w) := by
  obtain ⟨ns, rfl, h3⟩ := nats_of hr
  obtain ⟨ms, rfl, h4⟩ := nats_of hr2
  exact law_admitmade w AC RC ns ms nv mv h h3 (by simpa using hl) h2 h4 (by simpa using hl2)
theorem law_admitroomI (AC : AdmC) (RC : RelC) (xs : List Int) (nv : Value) (a b c : Nat) (ha : a < 256) (hb : b < 256) (hc : c < 256) (h : NumsRd .u8 w nv xs) (hr : ∀ x ∈ xs, 0 ≤ x ∧ x ≤ 255) (hl : xs.length ≤ maxLen) : Calls Try.prog 5 #[nv, .int .u8 (a : Int), .int .u8 (b : Int), .int .u8 (c : Int)] w (Made (.bool true) w) := by
  obtain ⟨ns, rfl, h2⟩ := nats_of hr
  exact law_admitroom w AC RC ns nv a b c (by omega) (by omega) (by omega) h h2 (by simpa using hl)
theorem law_admittwiceI (AC : AdmC) (xs : List Int) (nv : Value) (a b x y : Nat) (ha : a < 256) (hb : b < 256) (hx : x < 256) (hy : y < 256) (h : NumsRd .u8 w nv xs) (hr : ∀ x ∈ xs, 0 ≤ x ∧ x ≤ 255) (hl : xs.length ≤ maxLen) : Calls Try.prog 6 #[nv, .int .u8 (a : Int), .int .u8 (b : Int), .int .u8 (x : Int), .int .u8 (y : Int)] w (Made (.bool true) w) := by
  obtain ⟨ns, rfl, h2⟩ := nats_of hr
  exact law_admittwice w AC ns nv a b x y (by omega) (by omega) (by omega) (by omega) h h2 (by simpa using hl)
end
end Go.Proofs.Ytekaefeogbmmmaa
