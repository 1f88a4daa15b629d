/- The laws of shape by numbers as they come in. -/
import Derived.Test.YtmpakgabehplbaaShJ
import Derived.Test.YtmpakgabehplbaaShK
import Derived.Test.YtmpakgabehplbaaShM
import Derived.Test.YtmpakgabehplbaaShP
import Derived.Test.YtmpakgabehplbaaShR
import Derived.Test.YtmpakgabehplbaaTrN
namespace Go.Proofs.Ytmpakgabehplbaa
open Go.RowKit
set_option linter.unusedVariables false
section
variable (w : World)
theorem law_shapemadeI (CC : CrC) (OC : DoC) (xs ys : List Int) (nv mv : Value) (a : Nat) (ha : a < 256) (h : NumsRd .u8 w nv xs) (hr : ∀ x ∈ xs, 0 ≤ x ∧ x ≤ 255) (hl : xs.length ≤ maxLen) (h2 : NumsRd .u8 w mv ys) (hr2 : ∀ x ∈ ys, 0 ≤ x ∧ x ≤ 255) (hl2 : ys.length ≤ maxLen) : Calls Try.prog 4 #[nv, mv, .int .u8 (a : Int)] w (Made (.bool true) w) := by
  obtain ⟨ns, rfl, h3⟩ := nats_of hr
  obtain ⟨ms, rfl, h4⟩ := nats_of hr2
  exact law_shapemade w CC OC ns ms nv mv a (by omega) h h3 (by simpa using hl) h2 h4 (by simpa using hl2)
theorem law_shaperestI (CC : CrC) (OC : DoC) (xs : List Int) (nv : Value) (a b c : Nat) (ha : a < 256) (hb : b < 256) (hc : c < 256) (h : NumsRd .u8 w nv xs) (hr : ∀ x ∈ xs, 0 ≤ x ∧ x ≤ 255) (hl : xs.length ≤ maxLen) : Calls Try.prog 5 #[nv, .int .u8 (a : Int), .int .u8 (b : Int), .int .u8 (c : Int)] w (Made (.bool true) w) := by
  obtain ⟨ns, rfl, h2⟩ := nats_of hr
  exact law_shaperest w CC OC ns nv a b c (by omega) (by omega) (by omega) h h2 (by simpa using hl)
theorem law_shapemovesI (CC : CrC) (MC : MoC) (xs : List Int) (nv : Value) (a b : Nat) (ha : a < 256) (hb : b < 256) (h : NumsRd .u8 w nv xs) (hr : ∀ x ∈ xs, 0 ≤ x ∧ x ≤ 255) (hl : xs.length ≤ maxLen) : Calls Try.prog 6 #[nv, .int .u8 (a : Int), .int .u8 (b : Int)] w (Made (.bool true) w) := by
  obtain ⟨ns, rfl, h2⟩ := nats_of hr
  exact law_shapemoves w CC MC ns nv a b (by omega) (by omega) h h2 (by simpa using hl)
theorem law_shapecomesI (CC : CrC) (DC : DeC) (xs : List Int) (nv : Value) (s : ByteArray) (hsz : s.size ≤ maxLen) (a b : Nat) (ha : a < 256) (hb : b < 65536) (h : NumsRd .u8 w nv xs) (hr : ∀ x ∈ xs, 0 ≤ x ∧ x ≤ 255) (hl : xs.length ≤ maxLen) : Calls Try.prog 8 #[nv, .string s, .int .u8 (a : Int), .int .u16 (b : Int)] w (Made (.bool true) w) := by
  obtain ⟨ns, rfl, h2⟩ := nats_of hr
  exact law_shapecomes w CC DC ns nv s hsz a b (by omega) (by omega) h h2 (by simpa using hl)
theorem law_shapemanyI (CC : CrC) (a : Nat) (ha : a < 256) : Calls Try.prog 9 #[.int .u8 (a : Int)] w (Made (.bool true) w) :=
  law_shapemany w CC a (by omega)
end
end Go.Proofs.Ytmpakgabehplbaa
