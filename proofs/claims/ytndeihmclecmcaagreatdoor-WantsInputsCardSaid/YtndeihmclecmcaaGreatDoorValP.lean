/- Package slices: Clone at values. -/
import Derived.Test.YtndeihmclecmcaaGreatDoorValO
namespace Go.Proofs.YtndeihmclecmcaaGreatDoor
open Go.RowKit
set_option linter.unusedVariables false
set_option linter.unusedSimpArgs false

/-- A new row with the cells of another one. -/
def NewRow (w w' : World) (ps : List (VL × Value)) (v : Value) : Prop :=
  (ps = [] ∧ ∃ ao cap, v = .slice ao 0 cap) ∨ (ps ≠ [] ∧ ∃ g cap, v = .slice (some ⟨g, 0, none⟩) ps.length cap ∧ w.heap.size ≤ g ∧ g < w'.heap.size ∧ CellsAt w' g 0 ps ∧ ∀ o, w'.frozen? ⟨g, o, none⟩ = false)
theorem newRow_of_own {w w' : World} {ps : List (VL × Value)} {v : Value} (h : w'.ownsRow w.heap.size 39 4 v ps.length (rowCells ps)) : NewRow w w' ps v := by
  by_cases h0 : ps = []
  · subst h0
    refine .inl ⟨rfl, ?_⟩
    rcases h.2 with ⟨e, -⟩ | ⟨g, cap, cur, e, -⟩
    · exact ⟨_, _, e⟩
    · exact ⟨_, _, e⟩
  · have hpos : 0 < ps.length := List.length_pos_iff.2 h0
    obtain ⟨g, cap, cur, e, hB, hg, -⟩ : ∃ g cap cur, v = .slice (some ⟨g, 0, none⟩) ps.length cap ∧ w.heap.size ≤ g ∧ w'.heap[g]? = some (.cells cur 39 (0, 0)) ∧ True := by
      rcases h.2 with ⟨-, h0'⟩ | ⟨g, cap, cur, e, hB, hg, -⟩
      · omega
      · exact ⟨g, cap, cur, e, hB, hg, trivial⟩
    have hlt : g < w'.heap.size := by
      rcases Nat.lt_or_ge g w'.heap.size with hlt | hge
      · exact hlt
      · rw [Array.getElem?_eq_none hge] at hg; cases hg
    refine .inr ⟨h0, g, cap, e, hB, hlt, fun i p hp => ?_, fun o => ?_⟩
    · have hc := fun j u hj => World.ownsRow.cells (g := g) h (by rw [e]; rfl) j u hj
      have k : ∀ r u, r < 4 → (pairCells p)[r]? = some u → w'.cell? ⟨g, i * 4 + r, none⟩ = some u := by
        intro r u hr hu
        have := hc _ u (rowCells_at ps i r p u hp hr hu)
        have ha : (⟨g, 0, none⟩ : Addr).add (i * 4 + r) = ⟨g, 0 + (i * 4 + r), none⟩ := by unfold Addr.add; split <;> simp_all
        rw [ha, Nat.zero_add] at this
        exact this
      have z0 := k 0 _ (by omega) rfl
      have z1 := k 1 _ (by omega) rfl
      have z2 := k 2 _ (by omega) rfl
      have z3 := k 3 _ (by omega) rfl
      rw [Nat.zero_add]
      exact ⟨by simpa using z0, z1, z2, z3⟩
    · simp [World.frozen?, hg]
section
variable (w : World)
set_option maxHeartbeats 1000000 in
set_option maxRecDepth 20000 in
theorem vsclone (w0 : World) (hw0 : Below w0.heap.size w0 w) (D : Nat) (l : List VL) (lv : Value) (h : RowRd w0 D l lv) (hl : l.length ≤ 64) :
    Calls Tryz.prog 131 #[lv] w fun e w' => ∃ v ps, e = .returned v ∧ ps.map (·.1) = l ∧ (∀ p ∈ ps, 0 < D ∧ RowRd w0 (D - 1) p.1.kids p.2) ∧ NewRow w w' ps v ∧ Below w.heap.size w w' := by
  obtain ⟨ps, h1, h2, ao, cap, rfl, h30⟩ := h.pairs
  have h3 : l ≠ [] → ∃ g o, ao = some ⟨g, o, none⟩ ∧ g < w.heap.size ∧ CellsAt w g o ps := fun e => by
    obtain ⟨g, o, e1, hg, hc⟩ := h30 e
    exact ⟨g, o, e1, Nat.lt_of_lt_of_le hg hw0.size, fun i p hp => by
      obtain ⟨c0, c1, c2, c3⟩ := hc i p hp
      exact ⟨hold hw0 c0, hold hw0 c1, hold hw0 c2, hold hw0 c3⟩⟩
  clear h30 hw0
  have hpl : ps.length = l.length := by rw [← h1]; simp
  have P2 := Lib.hid h2
  have P1 := Lib.hid h1
  cases ao with
  | none =>
    have hl0 : l = [] := by
      by_cases e : l = []
      · exact e
      · obtain ⟨g, o, e', -⟩ := h3 e; cases e'
    subst hl0
    have hps : ps = [] := List.eq_nil_of_length_eq_zero (by simpa using hpl)
    subst hps
    have hnil := fun W => Lib.run_eql_slice_nil (P := Tryz.prog) W 37 39 none 0 cap 0 0 Tryz.underlying37
    clear h h1 h2 h3 hl hpl
    go_enter Tryz.func131, Tryz.ntmps131
    go_wp2_with fail
    go_ret
    exact ⟨_, [], rfl, rfl, (fun p h => by simp at h), .inl ⟨rfl, _, _, rfl⟩, Below.refl _ _⟩
  | some ad =>
    obtain ⟨i0, hi0, hz0, hz1, hz2⟩ := info_parts info_val
    have hnil := fun W => Lib.run_eql_slice_nil (P := Tryz.prog) W 37 39 (some ad) l.length cap 0 0 Tryz.underlying37
    have hcells : ∀ j u, (rowCells ps)[j]? = some u → w.cell? (ad.add j) = some u ∧ ad.block < w.heap.size := by
      intro j u hj
      obtain ⟨i, r, p, rfl, hr, hp, hu⟩ := rowCells_get ps j u hj
      have hne : l ≠ [] := by
        intro e
        rw [e] at hpl
        have := (List.getElem?_eq_some_iff.1 hp).1
        simp at hpl; rw [hpl] at this; simp at this
      obtain ⟨g, o, e, hg, hc⟩ := h3 hne
      cases e
      have ha : (⟨g, o, none⟩ : Addr).add (i * 4 + r) = ⟨g, o + (i * 4 + r), none⟩ := by unfold Addr.add; split <;> simp_all
      rw [ha]
      obtain ⟨c0, c1, c2, c3⟩ := hc i p hp
      refine ⟨?_, hg⟩
      match r, hr, hu with
      | 0, _, hu => simp [pairCells] at hu; rw [← hu]; exact c0
      | 1, _, hu => simp [pairCells] at hu; rw [← hu, ← Nat.add_assoc]; exact c1
      | 2, _, hu => simp [pairCells] at hu; rw [← hu, ← Nat.add_assoc]; exact c2
      | 3, _, hu => simp [pairCells] at hu; rw [← hu, ← Nat.add_assoc]; exact c3
      | n + 4, hr, _ => omega
    have HC := Lib.hid hcells
    have ONE := Lib.hid (rowCells_one ps fun p hp => by
      obtain ⟨ao, cap, e⟩ := (h2 p hp).2.shape
      exact ⟨_, _, _, e⟩)
    have LEN := Lib.hid (rowCells_len ps)
    have PL := Lib.hid hpl
    clear h h1 h2 h3 hcells hpl
    go_enter Tryz.func131, Tryz.ntmps131
    go_wp2_with (at_builtin; refine wpList_append_own _ rfl _ _ 37 rfl w.heap.size 39 i0 _ 4 56 Tryz.underlying37 hi0 hz0 hz1 hz2 rfl (by decide) (.slice (some ⟨w.heap.size, 0, none⟩) 0 0) 0 [] rfl ?a1 ad l.length cap (rowCells ps) rfl ?b1 ?c1 ?d1 ?e1 ?f1 ?g1 ?_)
    case a1 => exact ⟨by simp, .inr ⟨w.heap.size, 0, #[], rfl, Nat.le_refl _, heap_alloc_new w _, Nat.le_refl _, Nat.zero_le _, by simp, by simp⟩⟩
    case b1 => rw [LEN.out, PL.out]
    case c1 =>
      intro j u hj
      obtain ⟨hc, hb⟩ := HC.out j u hj
      exact hold (below_al (Below.refl _ _) _) hc
    case d1 => exact ONE.out
    case e1 => unfold maxLen; omega
    case f1 => omega
    case g1 => simp
    intro v' w6 hown hgrow _
    go_wp2_with fail
    go_ret
    refine ⟨v', ps, rfl, P1.out, P2.out, newRow_of_own ?_, ?_⟩
    · rw [PL.out]; simpa using hown
    · exact (below_al (Below.refl _ _) _).grown hgrow (by simp) (by intro k hk; simp [Value.ownBlock] at hk; omega)
end
end Go.Proofs.YtndeihmclecmcaaGreatDoor
