/- The laws' example of package parse; the law of what is refused, walked. -/
import Derived.Test.YtphgafidlaombaaDoorParP
namespace Go.Proofs.YtphgafidlaombaaDoor
open Go.RowKit
set_option linter.unusedVariables false
set_option linter.unusedSimpArgs false

theorem num_pany (w : World) (x : Int) (h0 : 0 ≤ x) (h1 : x ≤ 100) : Calls Tryd.prog 8 #[.int .i64 x] w fun e w' => e = .returned (.int .i64 x) ∧ w = w' := by
  go_enter Tryd.func8, Tryd.ntmps8
  go_wp2
  go_ret
  exact ⟨rfl, rfl⟩
/-- What is seen of one block that was told. -/
theorem parsed_one {w : World} {v : Value} {x : BlockL} (h : Parsed w v [x]) : ∃ g cap aao acap, v = .slice (some ⟨g, 0, none⟩) 1 cap ∧ w.cell? ⟨g, 0, none⟩ = some (.int .i64 x.kind) ∧ w.cell? ⟨g, 1, none⟩ = some (.string x.label) ∧ w.cell? ⟨g, 2, none⟩ = some (.slice aao x.attrs.length acap) := by
  rcases h with ⟨h, -⟩ | ⟨C, b, ⟨xs, o, r⟩, -⟩
  · cases h
  · obtain ⟨g, cap, rfl⟩ := own_shape o
    obtain ⟨av, bv, rest, rfl, ⟨ys, oa, -⟩, -, -⟩ := r
    have hc := World.ownsRow.cells (g := g) o rfl
    have hadd : ∀ j, (⟨g, 0, none⟩ : Addr).add j = ⟨g, j, none⟩ := fun j => by unfold Addr.add; split <;> simp_all
    obtain ⟨aao, acap, hav⟩ : ∃ aao acap, av = .slice aao x.attrs.length acap := by
      rcases oa.2 with ⟨rfl, h0⟩ | ⟨g2, cap2, cur, rfl, -⟩
      · exact ⟨none, 0, by rw [h0]⟩
      · exact ⟨_, _, rfl⟩
    subst hav
    refine ⟨g, cap, aao, acap, rfl, ?_, ?_, ?_⟩
    · have := hc 0 (.int .i64 x.kind) (by simp); rwa [hadd] at this
    · have := hc 1 (.string x.label) (by simp); rwa [hadd] at this
    · have := hc 2 (.slice aao x.attrs.length acap) (by simp); rwa [hadd] at this
theorem parsed_nil {w : World} {v : Value} (h : Parsed w v []) : ∃ ao cap, v = .slice ao 0 cap := by
  rcases h with ⟨-, rfl⟩ | ⟨C, b, ⟨xs, o, -⟩, -⟩
  · exact ⟨none, 0, rfl⟩
  · rcases o.2 with ⟨rfl, -⟩ | ⟨g, cap, cur, rfl, -⟩
    · exact ⟨none, 0, rfl⟩
    · exact ⟨_, _, rfl⟩
section
variable (w : World)
set_option maxRecDepth 20000 in
theorem pawake (hv : ErrVar w) : Calls Tryd.prog 5 #[] w (Made (.bool true) w) := by
  have V := Lib.hid hv
  have EX := Lib.hid exParsed
  clear hv
  go_enter Tryd.func5, Tryd.ntmps5
  go_wp2_with fail
  refine (pparse exParse w 20 4 0 [exBlock] (by decide) V.out EX.out).mono ?_
  rintro e w1 ⟨v, rfl, hb, hp⟩
  obtain ⟨g, cap, aao, acap, rfl, c0, c1, c2⟩ := parsed_one hp
  have B1 := Lib.hid hb
  replace c0 : w1.cell? ⟨g, 0, none⟩ = some (.int .i64 3) := c0
  replace c1 : w1.cell? ⟨g, 1, none⟩ = some (.string ⟨#[97]⟩) := c1
  replace c2 : w1.cell? ⟨g, 2, none⟩ = some (.slice aao 1 acap) := c2
  clear hb hp
  go_wp2_with fail
  refine (num_pany _ 0 (by omega) (by omega)).mono ?_
  rintro e w2 ⟨rfl, rfl⟩
  go_wp2_with fail
  go_ret
  exact ⟨rfl, B1.out⟩
def refTexts : List ByteArray := [⟨#[110, 111, 100, 101, 32, 123, 32, 125]⟩,
  ⟨#[110, 111, 100, 101, 32, 34, 65, 34, 32, 123, 32, 125]⟩,
  ⟨#[110, 111, 100, 101, 32, 34, 97, 34, 32, 123, 32, 49, 32, 61, 32, 50, 32, 125]⟩,
  ⟨#[110, 111, 100, 101, 32, 34, 97, 34, 32, 123, 32, 120, 32, 50, 32, 125]⟩,
  ⟨#[110, 111, 100, 101, 32, 34, 97, 34, 32, 123, 32, 120, 32, 61, 32, 125]⟩,
  ⟨#[108, 111, 99, 97, 108, 115, 32, 34, 97, 34, 32, 123, 32, 125]⟩,
  ⟨#[110, 111, 100, 101, 32, 34, 97, 34, 32, 123, 32, 120, 32, 61, 32, 49]⟩,
  ⟨#[100, 101, 102, 105, 110, 101, 32, 34, 100, 34, 32, 123, 32, 100, 101, 102, 105, 110, 101, 32, 34, 101, 34, 32, 123, 32, 125, 32, 125]⟩,
  ⟨#[100, 101, 102, 105, 110, 101, 32, 34, 100, 34, 32, 123, 32, 120, 32, 61, 32, 49, 32, 125]⟩,
  ⟨#[120, 32, 61, 32, 49]⟩,
  ⟨#[110, 111, 100, 101, 32, 34, 36, 123, 97, 46, 98, 125, 34, 32, 123, 32, 125]⟩,
  ⟨#[110, 111, 100, 101, 32, 34, 97, 34, 32, 123, 32, 120, 32, 61, 32, 121, 32, 125]⟩,
  ⟨#[110, 111, 100, 101, 32, 34, 97, 34, 32, 123, 32, 120, 32, 61, 32, 49, 32, 60, 32, 50, 32, 60, 32, 51, 32, 125]⟩,
  ⟨#[110, 111, 100, 101, 32, 34, 97, 34, 32, 123, 32, 120, 32, 61, 32, 102, 40, 49, 44, 41, 32, 125]⟩,
  ⟨#[110, 111, 100, 101, 32, 34, 97, 34, 32, 123, 32, 120, 32, 61, 32, 91, 49, 44, 44, 50, 93, 32, 125]⟩,
  ⟨#[110, 111, 100, 101, 32, 34, 97, 34, 32, 123, 32, 120, 32, 61, 32, 97, 46, 98, 46, 99, 32, 125]⟩,
  ⟨#[110, 111, 100, 101, 32, 34, 97, 34, 32, 123, 32, 120, 32, 61, 32, 49, 32, 63, 32, 50, 32, 125]⟩,
  ⟨#[125]⟩,
  ⟨#[110, 111, 100, 101, 32, 34, 97, 34, 32, 123, 32, 125, 32, 125]⟩]
def isRefused (s : ByteArray) : Bool := match parseM 40 6 s with | some (5, []) => true | _ => false
theorem refAll : (refTexts.all fun s => isRefused s && decide (s.size ≤ 100)) = true := by kernel_rfl
theorem refused {s : ByteArray} (h : s ∈ refTexts) : parseM 40 6 s = some (5, []) ∧ s.size ≤ 100 := by
  have hh := List.all_eq_true.1 refAll s h
  simp only [Bool.and_eq_true, decide_eq_true_eq] at hh
  refine ⟨?_, hh.2⟩
  have h1 := hh.1
  unfold isRefused at h1
  split at h1
  · assumption
  · simp at h1
theorem psel (ss : List ByteArray) (i : Nat) (hi : i < ss.length) : ∃ x, x ∈ ss ∧ ∀ W : World, (W.alloc (.cells (ss.map Value.string).toArray 9)).cell? ⟨W.heap.size, i, none⟩ = some (.string x) := by
  refine ⟨ss[i], List.getElem_mem hi, fun W => ?_⟩
  have h := news_new W (ss.map Value.string).toArray 9 i (.string ss[i]) (by simp [hi])
  have hadd : (⟨W.heap.size, 0, none⟩ : Addr).add i = ⟨W.heap.size, i, none⟩ := by unfold Addr.add; split <;> simp_all
  rw [← hadd]; exact h
set_option maxHeartbeats 2000000 in
set_option maxRecDepth 20000 in
theorem law_refuses (n : Nat) (hn : n < 256) (hv : ErrVar w) : Calls Tryd.prog 4 #[.int .u8 n] w (Made (.bool true) w) := by
  have V := Lib.hid hv
  clear hv
  obtain ⟨x, hx, fx⟩ := psel refTexts (n % 19) (by show n % 19 < 19; omega)
  obtain ⟨hp, hsz⟩ := refused hx
  have P := Lib.hid hp
  have Z := Lib.hid (show x.size ≤ maxLen by unfold maxLen; omega)
  have mn : n % 19 < 19 := by omega
  have f1 : (w.alloc (.cells #[.string ⟨#[110, 111, 100, 101, 32, 123, 32, 125]⟩, .string ⟨#[110, 111, 100, 101, 32, 34, 65, 34, 32, 123, 32, 125]⟩, .string ⟨#[110, 111, 100, 101, 32, 34, 97, 34, 32, 123, 32, 49, 32, 61, 32, 50, 32, 125]⟩, .string ⟨#[110, 111, 100, 101, 32, 34, 97, 34, 32, 123, 32, 120, 32, 50, 32, 125]⟩, .string ⟨#[110, 111, 100, 101, 32, 34, 97, 34, 32, 123, 32, 120, 32, 61, 32, 125]⟩, .string ⟨#[108, 111, 99, 97, 108, 115, 32, 34, 97, 34, 32, 123, 32, 125]⟩, .string ⟨#[110, 111, 100, 101, 32, 34, 97, 34, 32, 123, 32, 120, 32, 61, 32, 49]⟩, .string ⟨#[100, 101, 102, 105, 110, 101, 32, 34, 100, 34, 32, 123, 32, 100, 101, 102, 105, 110, 101, 32, 34, 101, 34, 32, 123, 32, 125, 32, 125]⟩, .string ⟨#[100, 101, 102, 105, 110, 101, 32, 34, 100, 34, 32, 123, 32, 120, 32, 61, 32, 49, 32, 125]⟩, .string ⟨#[120, 32, 61, 32, 49]⟩, .string ⟨#[110, 111, 100, 101, 32, 34, 36, 123, 97, 46, 98, 125, 34, 32, 123, 32, 125]⟩, .string ⟨#[110, 111, 100, 101, 32, 34, 97, 34, 32, 123, 32, 120, 32, 61, 32, 121, 32, 125]⟩, .string ⟨#[110, 111, 100, 101, 32, 34, 97, 34, 32, 123, 32, 120, 32, 61, 32, 49, 32, 60, 32, 50, 32, 60, 32, 51, 32, 125]⟩, .string ⟨#[110, 111, 100, 101, 32, 34, 97, 34, 32, 123, 32, 120, 32, 61, 32, 102, 40, 49, 44, 41, 32, 125]⟩, .string ⟨#[110, 111, 100, 101, 32, 34, 97, 34, 32, 123, 32, 120, 32, 61, 32, 91, 49, 44, 44, 50, 93, 32, 125]⟩, .string ⟨#[110, 111, 100, 101, 32, 34, 97, 34, 32, 123, 32, 120, 32, 61, 32, 97, 46, 98, 46, 99, 32, 125]⟩, .string ⟨#[110, 111, 100, 101, 32, 34, 97, 34, 32, 123, 32, 120, 32, 61, 32, 49, 32, 63, 32, 50, 32, 125]⟩, .string ⟨#[125]⟩, .string ⟨#[110, 111, 100, 101, 32, 34, 97, 34, 32, 123, 32, 125, 32, 125]⟩] 9)).cell? ⟨w.heap.size, n % 19, none⟩ = some (.string x) := fx w
  have B1 := Lib.hid (show Below w.heap.size w (w.alloc (.cells #[.string ⟨#[110, 111, 100, 101, 32, 123, 32, 125]⟩, .string ⟨#[110, 111, 100, 101, 32, 34, 65, 34, 32, 123, 32, 125]⟩, .string ⟨#[110, 111, 100, 101, 32, 34, 97, 34, 32, 123, 32, 49, 32, 61, 32, 50, 32, 125]⟩, .string ⟨#[110, 111, 100, 101, 32, 34, 97, 34, 32, 123, 32, 120, 32, 50, 32, 125]⟩, .string ⟨#[110, 111, 100, 101, 32, 34, 97, 34, 32, 123, 32, 120, 32, 61, 32, 125]⟩, .string ⟨#[108, 111, 99, 97, 108, 115, 32, 34, 97, 34, 32, 123, 32, 125]⟩, .string ⟨#[110, 111, 100, 101, 32, 34, 97, 34, 32, 123, 32, 120, 32, 61, 32, 49]⟩, .string ⟨#[100, 101, 102, 105, 110, 101, 32, 34, 100, 34, 32, 123, 32, 100, 101, 102, 105, 110, 101, 32, 34, 101, 34, 32, 123, 32, 125, 32, 125]⟩, .string ⟨#[100, 101, 102, 105, 110, 101, 32, 34, 100, 34, 32, 123, 32, 120, 32, 61, 32, 49, 32, 125]⟩, .string ⟨#[120, 32, 61, 32, 49]⟩, .string ⟨#[110, 111, 100, 101, 32, 34, 36, 123, 97, 46, 98, 125, 34, 32, 123, 32, 125]⟩, .string ⟨#[110, 111, 100, 101, 32, 34, 97, 34, 32, 123, 32, 120, 32, 61, 32, 121, 32, 125]⟩, .string ⟨#[110, 111, 100, 101, 32, 34, 97, 34, 32, 123, 32, 120, 32, 61, 32, 49, 32, 60, 32, 50, 32, 60, 32, 51, 32, 125]⟩, .string ⟨#[110, 111, 100, 101, 32, 34, 97, 34, 32, 123, 32, 120, 32, 61, 32, 102, 40, 49, 44, 41, 32, 125]⟩, .string ⟨#[110, 111, 100, 101, 32, 34, 97, 34, 32, 123, 32, 120, 32, 61, 32, 91, 49, 44, 44, 50, 93, 32, 125]⟩, .string ⟨#[110, 111, 100, 101, 32, 34, 97, 34, 32, 123, 32, 120, 32, 61, 32, 97, 46, 98, 46, 99, 32, 125]⟩, .string ⟨#[110, 111, 100, 101, 32, 34, 97, 34, 32, 123, 32, 120, 32, 61, 32, 49, 32, 63, 32, 50, 32, 125]⟩, .string ⟨#[125]⟩, .string ⟨#[110, 111, 100, 101, 32, 34, 97, 34, 32, 123, 32, 125, 32, 125]⟩] 9)) from (Below.refl _ _).alloc (Nat.le_refl _) _)
  clear hx fx hp hsz
  go_enter Tryd.func4, Tryd.ntmps4
  go_upto_region 2 with fail
  generalize w.alloc (.cells #[.string ⟨#[110, 111, 100, 101, 32, 123, 32, 125]⟩, .string ⟨#[110, 111, 100, 101, 32, 34, 65, 34, 32, 123, 32, 125]⟩, .string ⟨#[110, 111, 100, 101, 32, 34, 97, 34, 32, 123, 32, 49, 32, 61, 32, 50, 32, 125]⟩, .string ⟨#[110, 111, 100, 101, 32, 34, 97, 34, 32, 123, 32, 120, 32, 50, 32, 125]⟩, .string ⟨#[110, 111, 100, 101, 32, 34, 97, 34, 32, 123, 32, 120, 32, 61, 32, 125]⟩, .string ⟨#[108, 111, 99, 97, 108, 115, 32, 34, 97, 34, 32, 123, 32, 125]⟩, .string ⟨#[110, 111, 100, 101, 32, 34, 97, 34, 32, 123, 32, 120, 32, 61, 32, 49]⟩, .string ⟨#[100, 101, 102, 105, 110, 101, 32, 34, 100, 34, 32, 123, 32, 100, 101, 102, 105, 110, 101, 32, 34, 101, 34, 32, 123, 32, 125, 32, 125]⟩, .string ⟨#[100, 101, 102, 105, 110, 101, 32, 34, 100, 34, 32, 123, 32, 120, 32, 61, 32, 49, 32, 125]⟩, .string ⟨#[120, 32, 61, 32, 49]⟩, .string ⟨#[110, 111, 100, 101, 32, 34, 36, 123, 97, 46, 98, 125, 34, 32, 123, 32, 125]⟩, .string ⟨#[110, 111, 100, 101, 32, 34, 97, 34, 32, 123, 32, 120, 32, 61, 32, 121, 32, 125]⟩, .string ⟨#[110, 111, 100, 101, 32, 34, 97, 34, 32, 123, 32, 120, 32, 61, 32, 49, 32, 60, 32, 50, 32, 60, 32, 51, 32, 125]⟩, .string ⟨#[110, 111, 100, 101, 32, 34, 97, 34, 32, 123, 32, 120, 32, 61, 32, 102, 40, 49, 44, 41, 32, 125]⟩, .string ⟨#[110, 111, 100, 101, 32, 34, 97, 34, 32, 123, 32, 120, 32, 61, 32, 91, 49, 44, 44, 50, 93, 32, 125]⟩, .string ⟨#[110, 111, 100, 101, 32, 34, 97, 34, 32, 123, 32, 120, 32, 61, 32, 97, 46, 98, 46, 99, 32, 125]⟩, .string ⟨#[110, 111, 100, 101, 32, 34, 97, 34, 32, 123, 32, 120, 32, 61, 32, 49, 32, 63, 32, 50, 32, 125]⟩, .string ⟨#[125]⟩, .string ⟨#[110, 111, 100, 101, 32, 34, 97, 34, 32, 123, 32, 125, 32, 125]⟩] 9) = w1 at *
  go_wp2_with fail
  refine (pparse x _ 40 6 5 [] Z.out (V.out.below B1.out V.out.lt) P.out).mono ?_
  rintro e w2 ⟨v, rfl, hb, hp⟩
  obtain ⟨ao, cap, rfl⟩ := parsed_nil hp
  have B2 := Lib.hid (B1.out.trans (hb.mono B1.out.size))
  clear hb hp
  go_wp2_with fail
  refine (num_pany _ 5 (by omega) (by omega)).mono ?_
  rintro e w3 ⟨rfl, rfl⟩
  go_wp2_with fail
  refine (pawake _ (V.out.below B2.out V.out.lt)).mono ?_
  rintro e w4 ⟨rfl, hb4⟩
  have B4 := Lib.hid (B2.out.trans (hb4.mono B2.out.size))
  clear hb4
  go_wp2_with fail
  go_ret
  exact ⟨rfl, B4.out⟩
end
end Go.Proofs.YtphgafidlaombaaDoor
