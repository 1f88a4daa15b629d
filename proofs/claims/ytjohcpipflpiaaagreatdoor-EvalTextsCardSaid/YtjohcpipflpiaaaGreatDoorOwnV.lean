/- Rows of values that a call itself makes. -/
import Derived.Test.YtjohcpipflpiaaaGreatDoorOwn
import Derived.Test.YtjohcpipflpiaaaGreatDoorValP
namespace Go.Proofs.YtjohcpipflpiaaaGreatDoor
open Go.RowKit
set_option linter.unusedVariables false
theorem own_len {w : World} {B e z n : Nat} {v : Value} {xs : List Value} (h : w.ownsRow B e z v n xs) : ∃ ao cap, v = .slice ao n cap := by
  rcases h.2 with ⟨rfl, h0⟩ | ⟨g, cap, cur, rfl, _⟩
  · subst h0; exact ⟨_, _, rfl⟩
  · exact ⟨_, _, rfl⟩
theorem rowCells_snoc (ps : List (VL × Value)) (p : VL × Value) : rowCells (ps ++ [p]) = rowCells ps ++ pairCells p := by simp [rowCells]
/-- A row of the call's own, read. -/
theorem row_of_own {w : World} {B D : Nat} {ps : List (VL × Value)} {v : Value} (h : w.ownsRow B 48 4 v ps.length (rowCells ps)) (hl : ps.length ≤ maxLen) (hk : ∀ p ∈ ps, RowRd w D p.1.kids p.2) :
    RowRd w (D + 1) (ps.map (·.1)) v := by
  rcases h.2 with ⟨rfl, h0⟩ | ⟨g, cap, cur, rfl, _⟩
  · obtain rfl : ps = [] := List.eq_nil_of_length_eq_zero h0
    exact RowRd.nil _ _ _ _
  · refine ⟨by simpa using hl, some ⟨g, 0, none⟩, cap, by simp, fun i u hu => ?_⟩
    rw [List.getElem?_map] at hu
    obtain ⟨p, hp, rfl⟩ := Option.map_eq_some_iff.1 hu
    have k : ∀ r u, r < 4 → (pairCells p)[r]? = some u → w.cell? ⟨g, i * 4 + r, none⟩ = some u := by
      intro r u hr hu
      have := World.ownsRow.cells (g := g) h rfl _ u (rowCells_at ps i r p u hp hr hu)
      have ha : (⟨g, 0, none⟩ : Addr).add (i * 4 + r) = ⟨g, 0 + (i * 4 + r), none⟩ := by unfold Addr.add; split <;> simp_all
      rw [ha, Nat.zero_add] at this
      exact this
    have z0 := k 0 _ (by omega) rfl
    have z1 := k 1 _ (by omega) rfl
    have z2 := k 2 _ (by omega) rfl
    have z3 := k 3 _ (by omega) rfl
    refine ⟨g, 0, p.2, rfl, ?_, ?_, ?_, ?_, hk p (List.mem_of_getElem? hp)⟩
    · rw [Nat.zero_add]; simpa using z0
    · rw [Nat.zero_add]; exact z1
    · rw [Nat.zero_add]; exact z2
    · rw [Nat.zero_add]; exact z3
end Go.Proofs.YtjohcpipflpiaaaGreatDoor
