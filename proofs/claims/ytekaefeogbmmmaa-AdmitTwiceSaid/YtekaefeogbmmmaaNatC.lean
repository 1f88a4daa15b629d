/- Rows of places. -/
import Derived.Test.YtekaefeogbmmmaaOwnX
namespace Go.Proofs.Ytekaefeogbmmmaa
open Go.RowKit
set_option linter.unusedVariables false
set_option linter.unusedSimpArgs false
def natC (ks : List Nat) : List Value := ks.map fun k : Nat => .int .i64 (k : Int)
theorem natC_app (a b : List Nat) : natC (a ++ b) = natC a ++ natC b := by simp [natC]
theorem natC_len (a : List Nat) : (natC a).length = a.length := by simp [natC]
theorem natC_one (l : List Nat) : ∀ u ∈ natC l, u.oneCell' = true := by
  intro u hu
  unfold natC at hu
  obtain ⟨k, -, rfl⟩ := List.mem_map.1 hu
  rfl
theorem natC_at {xs : List Nat} {j k : Nat} (h : xs[j]? = some k) : (natC xs)[j]? = some (.int .i64 (k : Int)) := by
  unfold natC; rw [List.getElem?_map, h]; rfl
/-- A place of a row that is owned. -/
theorem own_cell {w : World} {B : Nat} {ao : Option Addr} {cap : Nat} {xs : List Nat} (h : w.ownsRow B 3 1 (.slice ao xs.length cap) xs.length (natC xs)) {j k : Nat} (hj : xs[j]? = some k) : ∃ b, ao = some ⟨b, 0, none⟩ ∧ w.cell? ⟨b, j, none⟩ = some (.int .i64 (k : Int)) := by
  have hjl := (List.getElem?_eq_some_iff.1 hj).1
  rcases h.2 with ⟨e, h0⟩ | ⟨b, cap', cur, e, _⟩
  · omega
  · simp only [Value.slice.injEq] at e
    obtain ⟨rfl, -, rfl⟩ := e
    refine ⟨b, rfl, ?_⟩
    rw [h.cellAt j (by omega)]
    exact natC_at hj
theorem own_shape {w : World} {B : Nat} {v : Value} {xs : List Nat} (h : w.ownsRow B 3 1 v xs.length (natC xs)) : ∃ ao cap, v = .slice ao xs.length cap := by
  rcases h.2 with ⟨rfl, h0⟩ | ⟨g, cap, cur, rfl, _⟩
  · rw [h0]; exact ⟨_, _, rfl⟩
  · exact ⟨_, _, rfl⟩
end Go.Proofs.Ytekaefeogbmmmaa
