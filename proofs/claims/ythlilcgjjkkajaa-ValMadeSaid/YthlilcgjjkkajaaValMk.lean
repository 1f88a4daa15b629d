/- The law of values by numbers, of whatever is handed in. -/
import Derived.Test.YthlilcgjjkkajaaValMi
namespace Go.Proofs.Ythlilcgjjkkajaa
open Go.ChangeShapes Go.WideShapes Go.ChangeAt Go.RowKit
set_option linter.unusedVariables false
set_option linter.unusedSimpArgs false

theorem caps_u8 {H : Type} {enc : TypeId × Value → H} {W : World} {base : Nat} {v : Value} {d : DataW H} {p : List MemPlace} (hval : Value.okWide Try.prog W .any base 22 v) (h : DataW.Trod enc Try.prog W 0 (fun _ => true) true 22 v d p) : CapOk v := by
  obtain ⟨a0, len, cap, rfl⟩ := okWide_slice Try.underlying22 hval
  obtain ⟨fuel, hf⟩ := h
  rcases open_ints Try.underlying22 Try.underlying5 cells_uint8 hf with ⟨hcs, hx⟩ | ⟨a, len', cap', zs, hcs, _, hl, hm, hz, hx, hcell, hwz⟩
  · simp [Value.cells] at hcs
    obtain ⟨rfl, rfl, rfl⟩ := hcs
    exact fun _ _ _ e => by injection e with _ e1 e2; omega
  · simp [Value.cells] at hcs
    obtain ⟨rfl, rfl, rfl⟩ := hcs
    exact fun _ _ _ e => by injection e with _ e1 e2; omega
section
variable (w : World)
set_option maxRecDepth 100000
set_option maxHeartbeats 4000000 in
theorem vmade_out (va vb : Value) (xs ys : List Int) (s : ByteArray) (n : Nat) (ha : NumsRd .u8 w va xs) (hb0 : NumsRd .u8 w vb ys) (hxl : xs.length ≤ maxLen) (hyl : ys.length ≤ maxLen) (hs : s.size ≤ maxLen) (h : 20 < xs.length ∨ 20 < ys.length ∨ 100 < s.size) :
    Calls Try.prog 3 #[.int .u8 (n : Int), va, vb, .string s] w (Made (.bool true) w) := by
  obtain ⟨ao, acap, rfl⟩ := ha.shape
  obtain ⟨bo, bcap, rfl⟩ := hb0.shape
  unfold maxLen at hxl hyl hs
  clear ha hb0
  generalize hn1 : xs.length = xn at *
  generalize hn2 : ys.length = yn at *
  clear hn1 hn2
  by_cases h1 : 20 < xn
  · have g1 : (20 : Int) < (xn : Int) := by omega
    by_cases h2 : 20 < yn <;> by_cases h3 : 100 < s.size
    all_goals
      clear h
      go_enter Try.func3, Try.ntmps3
      go_wp2_with fail
      refine (law_awake _).mono ?_
      rintro e w2 ⟨rfl, hb⟩
      go_wp2_with fail
      go_ret
      exact ⟨rfl, hb⟩
  · have g1 : ¬ (20 : Int) < (xn : Int) := by omega
    by_cases h2 : 20 < yn
    · have g2 : (20 : Int) < (yn : Int) := by omega
      clear h
      go_enter Try.func3, Try.ntmps3
      go_wp2_with fail
      refine (law_awake _).mono ?_
      rintro e w2 ⟨rfl, hb⟩
      go_wp2_with fail
      go_ret
      exact ⟨rfl, hb⟩
    · have g2 : ¬ (20 : Int) < (yn : Int) := by omega
      have h3 : 100 < s.size := by omega
      have g3 : (100 : Int) < (s.size : Int) := by omega
      clear h
      go_enter Try.func3, Try.ntmps3
      go_wp2_with fail
      refine (law_awake _).mono ?_
      rintro e w2 ⟨rfl, hb⟩
      go_wp2_with fail
      go_ret
      exact ⟨rfl, hb⟩
theorem law_vmade (z : Int) (va vb : Value) (xs ys : List Int) (s : ByteArray) (hz : 0 ≤ z ∧ z ≤ 255) (ha : NumsRd .u8 w va xs) (hb0 : NumsRd .u8 w vb ys) (hca : CapOk va) (hcb : CapOk vb) (hx : ∀ x ∈ xs, 0 ≤ x ∧ x ≤ 255) (hy : ∀ x ∈ ys, 0 ≤ x ∧ x ≤ 255) (hxl : xs.length ≤ maxLen) (hyl : ys.length ≤ maxLen) (hs : s.size ≤ maxLen) :
    Calls Try.prog 3 #[.int .u8 z, va, vb, .string s] w (Made (.bool true) w) := by
  obtain ⟨n, rfl⟩ : ∃ n : Nat, z = (n : Int) := ⟨z.toNat, by omega⟩
  by_cases h : 20 < xs.length ∨ 20 < ys.length ∨ 100 < s.size
  · exact vmade_out w va vb xs ys s n ha hb0 hxl hyl hs h
  · exact vmade_in w va vb xs ys s n ha hb0 hca hcb hx hy (by omega) (by omega) (by omega) (by omega)
end
end Go.Proofs.Ythlilcgjjkkajaa
