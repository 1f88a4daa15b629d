/- The laws of room by numbers as they come in; texts that came in. -/
import Derived.Test.YtffmmoligdoclaaRmI
import Derived.Test.YtffmmoligdoclaaRmM
import Derived.Test.YtffmmoligdoclaaStrs
import Derived.Test.YtffmmoligdoclaaTrPu
namespace Go.Proofs.Ytffmmoligdoclaa
open Go.RowKit
set_option linter.unusedVariables false
theorem srow_rd {w : World} {v : Value} {xs : List ByteArray} (h : StrsRd w v xs) : SRow w xs v := by
  obtain ⟨ao, cap, e, -, -, hc⟩ := h
  exact ⟨ao, cap, e, hc⟩
section
variable (w : World)
theorem law_roommadeI (OF : OfC) (TI : TiC) (SH : ShC) (xs ys : List Int) (nv mv : Value) (a : Nat) (ha : a < 256) (h : NumsRd .u8 w nv xs) (hr : ∀ x ∈ xs, 0 ≤ x ∧ x ≤ 255) (hl : xs.length ≤ maxLen) (h2 : NumsRd .u8 w mv ys) (hr2 : ∀ x ∈ ys, 0 ≤ x ∧ x ≤ 255) (hl2 : ys.length ≤ maxLen) : Calls Try.prog 4 #[nv, mv, .int .u8 (a : Int)] w (Made (.bool true) w) := by
  obtain ⟨ns, rfl, h3⟩ := nats_of hr
  obtain ⟨ms, rfl, h4⟩ := nats_of hr2
  exact law_roommade w OF TI SH ns ms nv mv a (by omega) h h3 (by simpa using hl) h2 h4 (by simpa using hl2)
theorem law_roomsharesI (OF : OfC) (SH : ShC) (xs : List Int) (nv : Value) (a : Nat) (ha : a < 256) (h : NumsRd .u8 w nv xs) (hr : ∀ x ∈ xs, 0 ≤ x ∧ x ≤ 255) (hl : xs.length ≤ maxLen) : Calls Try.prog 6 #[nv, .int .u8 (a : Int)] w (Made (.bool true) w) := by
  obtain ⟨ns, rfl, h2⟩ := nats_of hr
  exact law_roomshares w OF SH ns nv a (by omega) h h2 (by simpa using hl)
theorem law_roomupI (OF : OfC) (xs : List Int) (nv : Value) (h : NumsRd .u8 w nv xs) (hr : ∀ x ∈ xs, 0 ≤ x ∧ x ≤ 255) (hl : xs.length ≤ maxLen) : Calls Try.prog 7 #[nv] w (Made (.bool true) w) := by
  obtain ⟨ns, rfl, h2⟩ := nats_of hr
  exact law_roomup w OF ns nv h h2 (by simpa using hl)
end
end Go.Proofs.Ytffmmoligdoclaa
