/- Package want: Less; the library's insertionSort, swapRange, rotate. -/
import Derived.Test.YtmiadhcmhnjmfaaWpT
namespace Go.Proofs.Ytmiadhcmhnjmfaa
open Go.RowKit
set_option linter.unusedVariables false
set_option linter.unusedSimpArgs false
/-- Does x stand ahead of y? -/
def ltD (x y : W5 × Nat) : Bool := if x.2 = y.2 then ltS x.1.name y.1.name else decide ((x.2 : Int) < (y.2 : Int))
section
variable (w : World)
theorem plenL (lo : Option Addr) (n c : Nat) : Calls Try.prog 63 #[.slice lo n c] w fun e w' => e = .returned (.int .i64 n) ∧ w = w' := by
  go_enter Try.func63, Try.ntmps63
  go_wp2_with fail
  go_ret
  exact ⟨rfl, rfl⟩
set_option maxHeartbeats 4000000 in
set_option maxRecDepth 20000 in
theorem plessD (g h n c : Nat) (f : Nat → W5 × Nat) (s : SrtAt w g h n f) (hn : n ≤ 1000) (i j : Nat) (hi : i < n) (hj : j < n) :
    Calls Try.prog 65 #[.agg #[.slice (some ⟨g, 0, none⟩) n c, .slice (some ⟨h, 0, none⟩) n n], .int .i64 i, .int .i64 j] w (Made (.bool (ltD (f i) (f j))) w) := by
  have BX := Lib.hid (below_al (Below.refl w.heap.size w) (.cells #[.slice (some ⟨g, 0, none⟩) n c, .slice (some ⟨h, 0, none⟩) n n] 53))
  have SX := Lib.hid (s.below BX.out)
  have NX := heap_alloc_new w (.cells #[.slice (some ⟨g, 0, none⟩) n c, .slice (some ⟨h, 0, none⟩) n n] 53)
  have c0' : (w.alloc (.cells #[.slice (some ⟨g, 0, none⟩) n c, .slice (some ⟨h, 0, none⟩) n n] 53)).cell? ⟨w.heap.size, 0, none⟩ = some (.slice (some ⟨g, 0, none⟩) n c) := by rw [cell_of_row _ _ 0 _ _ _ NX]; rfl
  have c1' : (w.alloc (.cells #[.slice (some ⟨g, 0, none⟩) n c, .slice (some ⟨h, 0, none⟩) n n] 53)).cell? ⟨w.heap.size, 1, none⟩ = some (.slice (some ⟨h, 0, none⟩) n n) := by rw [cell_of_row _ _ 1 _ _ _ NX]; rfl
  have C0 := Lib.hid c0'
  have C1 := Lib.hid c1'
  have q0 : (0 : Int) ≤ (i : Int) := by omega
  have q1 : (i : Int) < (n : Int) := by omega
  have q2 : (0 : Int) ≤ (j : Int) := by omega
  have q3 : (j : Int) < (n : Int) := by omega
  have LT := Lib.hid (show ltD (f i) (f j) = if (f i).2 = (f j).2 then ltS (f i).1.name (f j).1.name else decide (((f i).2 : Int) < ((f j).2 : Int)) from rfl)
  clear s NX c0' c1'
  go_enter Try.func65, Try.ntmps65
  go_upto_region 1 with fail
  generalize w.alloc (.cells #[.slice (some ⟨g, 0, none⟩) n c, .slice (some ⟨h, 0, none⟩) n n] 53) = wx at *
  have c0 := C0.out
  have c1 := C1.out
  have d0 := SX.out.dp i hi
  have d1 := SX.out.dp j hj
  have n0 := (SX.out.w5 i hi).1
  have n1 := (SX.out.w5 j hj).1
  by_cases he : (f i).2 = (f j).2
  · have R := Lib.hid (show ltD (f i) (f j) = ltS (f i).1.name (f j).1.name by rw [LT.out, if_pos he])
    have ne : (((f i).2 : Int) == ((f j).2 : Int)) = true := by simp [he]
    have E := Lib.hid (show ltS (f i).1.name (f j).1.name = Op.bytesLess (f i).1.name.toList (f j).1.name.toList from rfl)
    generalize ltD (f i) (f j) = r at *
    generalize (f i).1.name = s0 at *
    generalize (f j).1.name = s1 at *
    generalize (f i).2 = x0 at *
    generalize (f j).2 = x1 at *
    clear he LT
    obtain ⟨bb, hbb⟩ : ∃ bb, Op.bytesLess s0.toList s1.toList = bb := ⟨_, rfl⟩
    rw [hbb] at E
    go_region
    all_goals go_wp2_with fail
    all_goals go_region
    all_goals go_wp2_with fail
    all_goals go_ret
    all_goals exact ⟨by rw [R.out, E.out]; rfl, below_drew (below_drew BX.out)⟩
  · have R := Lib.hid (show ltD (f i) (f j) = decide (((f i).2 : Int) < ((f j).2 : Int)) by rw [LT.out, if_neg he])
    have ne : (((f i).2 : Int) == ((f j).2 : Int)) = false := by simp; omega
    generalize ltD (f i) (f j) = r at *
    generalize (f i).2 = x0 at *
    generalize (f j).2 = x1 at *
    obtain ⟨bb, hbb⟩ : ∃ bb, decide ((x0 : Int) < (x1 : Int)) = bb := ⟨_, rfl⟩
    rw [hbb] at R
    clear he LT n0 n1
    go_region
    all_goals go_wp2_with fail
    all_goals go_region
    all_goals go_wp2_with fail
    all_goals go_ret
    all_goals exact ⟨by rw [R.out, ← hbb]; show Ending.returned (.bool (decide (x0 < x1))) = _; simp, below_drew (below_drew BX.out)⟩
end
end Go.Proofs.Ytmiadhcmhnjmfaa
