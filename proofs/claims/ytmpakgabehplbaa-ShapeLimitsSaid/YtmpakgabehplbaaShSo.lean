/- So of ShapeLimits (its text takes some minutes: by itself). -/
import Derived.Test.YtmpakgabehplbaaShO
import Derived.Test.YtmpakgabehplbaaShOb
import Derived.Test.YtmpakgabehplbaaTrN
namespace Go.Proofs.Ytmpakgabehplbaa
open Go.RowKit
set_option linter.unusedVariables false
section
variable (w : World)
theorem law_shapelimits (CC : CrC) (LC : LiC) (DC : DeC) (ns : List Nat) (nv : Value) (wh cp : Nat) (hwh : wh ≤ 255) (hcp : cp ≤ 65535) (h : NumsRd .u8 w nv (ns.map fun n : Nat => (n : Int))) (hr : ∀ x ∈ ns, x ≤ 255) (hmx : ns.length ≤ maxLen) : Calls Try.prog 7 #[nv, .int .u8 (wh : Int), .int .u16 (cp : Int)] w (Made (.bool true) w) := by
  by_cases hc : ∀ x, (makeT ns [])[wh % (makeT ns []).length]? = some x → x.sub.c ≤ ((cp % 300 : Nat) : Int)
  · exact law_shapelimitsA w CC LC DC ns nv wh cp hwh hcp h hr hmx hc
  · refine law_shapelimitsB w CC LC DC ns nv wh cp hwh hcp h hr hmx fun x hx he => hc fun y hy => ?_
    rw [hx] at hy
    rw [← Option.some.inj hy]
    exact he
theorem law_shapelimitsI (CC : CrC) (LC : LiC) (DC : DeC) (xs : List Int) (nv : Value) (a b : Nat) (ha : a < 256) (hb : b < 65536) (h : NumsRd .u8 w nv xs) (hr : ∀ x ∈ xs, 0 ≤ x ∧ x ≤ 255) (hl : xs.length ≤ maxLen) : Calls Try.prog 7 #[nv, .int .u8 (a : Int), .int .u16 (b : Int)] w (Made (.bool true) w) := by
  obtain ⟨ns, rfl, h2⟩ := nats_of hr
  exact law_shapelimits w CC LC DC ns nv a b (by omega) (by omega) h h2 (by simpa using hl)
end
end Go.Proofs.Ytmpakgabehplbaa
