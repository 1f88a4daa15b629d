/- The law of what fits, by numbers as they come in. -/
import Derived.Test.YtffmmoligdoclaaRmK
import Derived.Test.YtffmmoligdoclaaTrPu
namespace Go.Proofs.Ytffmmoligdoclaa
open Go.RowKit
set_option linter.unusedVariables false
section
variable (w : World)
theorem law_roomfitsI (OF : OfC) (TI : TiC) (xs : List Int) (nv : Value) (a b : Nat) (ha : a < 256) (hb : b < 256) (h : NumsRd .u8 w nv xs) (hr : ∀ x ∈ xs, 0 ≤ x ∧ x ≤ 255) (hl : xs.length ≤ maxLen) : Calls Try.prog 5 #[nv, .int .u8 (a : Int), .int .u8 (b : Int)] w (Made (.bool true) w) := by
  obtain ⟨ns, rfl, h2⟩ := nats_of hr
  exact law_roomfits w OF TI ns nv a b (by omega) (by omega) h h2 (by simpa using hl)
end
end Go.Proofs.Ytffmmoligdoclaa
