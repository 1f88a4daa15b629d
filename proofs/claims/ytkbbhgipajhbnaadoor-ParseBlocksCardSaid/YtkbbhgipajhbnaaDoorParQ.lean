/- The laws' example of package parse. -/
import Derived.Test.YtkbbhgipajhbnaaDoorParP
namespace Go.Proofs.YtkbbhgipajhbnaaDoor
open Go.RowKit
set_option linter.unusedVariables false
set_option linter.unusedSimpArgs false

theorem num_pany (w : World) (x : Int) (h0 : 0 ≤ x) (h1 : x ≤ 100) : Calls Tryd.prog 8 #[.int .i64 x] w fun e w' => e = .returned (.int .i64 x) ∧ w = w' := by
  go_enter Tryd.func8, Tryd.ntmps8
  go_wp2
  go_ret
  exact ⟨rfl, rfl⟩
/-- What is seen of one block that was told. -/
theorem parsed_one {w : World} {v : Value} {x : BlockL} (h : Parsed w v [x]) : ∃ g cap aao acap, v = .slice (some ⟨g, 0, none⟩) 1 cap ∧ w.cell? ⟨g, 0, none⟩ = some (.int .i64 x.kind) ∧ w.cell? ⟨g, 1, none⟩ = some (.string x.label) ∧ w.cell? ⟨g, 2, none⟩ = some (.slice aao x.attrs.length acap) := by
  rcases h with ⟨h, -⟩ | ⟨C, b, ⟨xs, o, r⟩, -⟩
  · cases h
  · obtain ⟨g, cap, rfl⟩ := own_shape o
    obtain ⟨av, bv, rest, rfl, ⟨ys, oa, -⟩, -, -⟩ := r
    have hc := World.ownsRow.cells (g := g) o rfl
    have hadd : ∀ j, (⟨g, 0, none⟩ : Addr).add j = ⟨g, j, none⟩ := fun j => by unfold Addr.add; split <;> simp_all
    obtain ⟨aao, acap, hav⟩ : ∃ aao acap, av = .slice aao x.attrs.length acap := by
      rcases oa.2 with ⟨rfl, h0⟩ | ⟨g2, cap2, cur, rfl, -⟩
      · exact ⟨none, 0, by rw [h0]⟩
      · exact ⟨_, _, rfl⟩
    subst hav
    refine ⟨g, cap, aao, acap, rfl, ?_, ?_, ?_⟩
    · have := hc 0 (.int .i64 x.kind) (by simp); rwa [hadd] at this
    · have := hc 1 (.string x.label) (by simp); rwa [hadd] at this
    · have := hc 2 (.slice aao x.attrs.length acap) (by simp); rwa [hadd] at this
theorem parsed_nil {w : World} {v : Value} (h : Parsed w v []) : ∃ ao cap, v = .slice ao 0 cap := by
  rcases h with ⟨-, rfl⟩ | ⟨C, b, ⟨xs, o, -⟩, -⟩
  · exact ⟨none, 0, rfl⟩
  · rcases o.2 with ⟨rfl, -⟩ | ⟨g, cap, cur, rfl, -⟩
    · exact ⟨none, 0, rfl⟩
    · exact ⟨_, _, rfl⟩
section
variable (w : World)
set_option maxRecDepth 20000 in
theorem pawake (hv : ErrVar w) : Calls Tryd.prog 5 #[] w (Made (.bool true) w) := by
  have V := Lib.hid hv
  have EX := Lib.hid exParsed
  clear hv
  go_enter Tryd.func5, Tryd.ntmps5
  go_wp2_with fail
  refine (pparse exParse w 20 4 0 [exBlock] (by decide) V.out EX.out).mono ?_
  rintro e w1 ⟨v, rfl, hb, hp⟩
  obtain ⟨g, cap, aao, acap, rfl, c0, c1, c2⟩ := parsed_one hp
  have B1 := Lib.hid hb
  replace c0 : w1.cell? ⟨g, 0, none⟩ = some (.int .i64 3) := c0
  replace c1 : w1.cell? ⟨g, 1, none⟩ = some (.string ⟨#[97]⟩) := c1
  replace c2 : w1.cell? ⟨g, 2, none⟩ = some (.slice aao 1 acap) := c2
  clear hb hp
  go_wp2_with fail
  refine (num_pany _ 0 (by omega) (by omega)).mono ?_
  rintro e w2 ⟨rfl, rfl⟩
  go_wp2_with fail
  go_ret
  exact ⟨rfl, B1.out⟩
theorem psel (ss : List ByteArray) (i : Nat) (hi : i < ss.length) : ∃ x, x ∈ ss ∧ ∀ W : World, (W.alloc (.cells (ss.map Value.string).toArray 9)).cell? ⟨W.heap.size, i, none⟩ = some (.string x) := by
  refine ⟨ss[i], List.getElem_mem hi, fun W => ?_⟩
  have h := news_new W (ss.map Value.string).toArray 9 i (.string ss[i]) (by simp [hi])
  have hadd : (⟨W.heap.size, 0, none⟩ : Addr).add i = ⟨W.heap.size, i, none⟩ := by unfold Addr.add; split <;> simp_all
  rw [← hadd]; exact h
end
end Go.Proofs.YtkbbhgipajhbnaaDoor
