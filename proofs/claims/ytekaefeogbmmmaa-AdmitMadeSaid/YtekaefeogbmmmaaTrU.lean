/- Package tree's calls; the law's awake. -/
import Derived.Test.YtekaefeogbmmmaaTrT
import Derived.Test.YtekaefeogbmmmaaTrI
namespace Go.Proofs.Ytekaefeogbmmmaa
open Go.RowKit
set_option linter.unusedVariables false
set_option linter.unusedSimpArgs false
section
variable (w : World)
set_option maxHeartbeats 4000000 in
set_option maxRecDepth 20000 in
theorem pUp (l : List I12) (lv : Value) (h : IRow w l lv) (hl : l.length ≤ 1000) (hs : Srt l) (s : ByteArray) :
    Calls Try.prog 38 #[lv, .string s] w (MadeStrs (upF l l.length s) w) := by
  have PF := Lib.hid (pup w l lv h hl hs s)
  obtain ⟨ao, cap, rfl⟩ := h.shape
  clear h hs
  go_enter Try.func38, Try.ntmps38
  go_wp2_with fail
  with_reducible refine PF.out.mono ?_
  rintro e w1 ⟨v, rfl, hb, ho⟩
  have B1 := Lib.hid hb
  have O1 := Lib.hid ho
  clear hb ho
  go_wp2_with fail
  go_ret
  exact ⟨_, rfl, B1.out, O1.out⟩
end
def aI : I12 := ⟨⟨#[97]⟩, ⟨#[]⟩, z3, z3, z3, 1⟩
theorem a_right : RT [aI] := ⟨by decide, List.pairwise_singleton .., fun x hx => by
  obtain rfl : x = aI := by simpa using hx
  kernel_rfl, fun x hx => by
  obtain rfl : x = aI := by simpa using hx
  kernel_rfl⟩
theorem a_find : findI [aI] ⟨#[97]⟩ = 0 := by kernel_rfl
theorem a_up : (upF [aI] [aI].length ⟨#[97]⟩).length = 1 := by kernel_rfl
theorem a_below : (belowI [aI] ⟨#[]⟩).length = 1 := by kernel_rfl
theorem nil_right : rightP [] := right_iff.2 RT.nil
end Go.Proofs.Ytekaefeogbmmmaa
