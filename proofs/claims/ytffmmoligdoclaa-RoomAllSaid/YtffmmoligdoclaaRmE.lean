/- Room: what package room is asked for; the law's awake. -/
import Derived.Test.YtffmmoligdoclaaRmD
import Derived.Test.YtffmmoligdoclaaTrGr
import Derived.Test.YtffmmoligdoclaaTrD
namespace Go.Proofs.Ytffmmoligdoclaa
open Go.RowKit
set_option linter.unusedVariables false
set_option linter.unusedSimpArgs false
def OfC : Prop := ∀ (W : World) (l : List I12) (lv : Value) (s : ByteArray), IRow W l lv → RT l → s.size ≤ maxLen → Calls Try.prog 11 #[lv, .string s] W (Made (.tuple #[.agg #[.int .i64 (roomV l s).c, .int .i64 (roomV l s).m, .int .i64 (roomV l s).p], .bool (okU (upI l s))]) W)
def TiC : Prop := ∀ (W : World) (l : List I12) (lv : Value) (s : ByteArray), IRow W l lv → RT l → s.size ≤ maxLen → Calls Try.prog 14 #[lv, .string s] W (MadeStrs (tightL l s) W)
def ShC : Prop := ∀ (W : World) (l : List I12) (lv : Value) (ns : List ByteArray) (nv : Value), IRow W l lv → RT l → SRow W ns nv → ns.length ≤ 1000 → (∀ s ∈ ns, s.size ≤ maxLen) → Calls Try.prog 16 #[lv, nv] W (Made (.agg #[.int .i64 (shareV l ns).c, .int .i64 (shareV l ns).m, .int .i64 (shareV l ns).p]) W)
def a4I : I12 := ⟨⟨#[97]⟩, ⟨#[]⟩, ⟨4, 0, 0⟩, z3, z3, 1⟩
theorem a4_right : RT [a4I] := ⟨by decide, List.pairwise_singleton .., fun x hx => by
  obtain rfl : x = a4I := by simpa using hx
  kernel_rfl, fun x hx => by
  obtain rfl : x = a4I := by simpa using hx
  kernel_rfl⟩
theorem a4_room : roomV [a4I] ⟨#[97]⟩ = ⟨4, 0, 0⟩ := by kernel_rfl
theorem a4_ok : okU (upI [a4I] ⟨#[97]⟩) = true := by kernel_rfl
theorem nil_room : roomV [] ⟨#[97]⟩ = z3 := by kernel_rfl
theorem nil_ok : okU (upI [] ⟨#[97]⟩) = false := by kernel_rfl
section
variable (w : World)
set_option maxHeartbeats 8000000 in
set_option maxRecDepth 20000 in
theorem law_awake13 (OF : OfC) : Calls Try.prog 10 #[] w (Made (.bool true) w) := by
  have R0 := Lib.hid (fun W => OF W [] (.slice none 0 0) ⟨#[97]⟩ (IRow.nil W) RT.nil (by decide))
  have R1 := Lib.hid (fun W lv (h : IRow W [a4I] lv) => OF W [a4I] lv ⟨#[97]⟩ h a4_right (by decide))
  rw [nil_room, nil_ok] at R0
  simp only [z3] at R0
  rw [a4_room, a4_ok] at R1
  clear OF
  go_enter Try.func10, Try.ntmps10
  go_wp2_with fail
  with_reducible refine (R0.out _).mono ?_
  rintro e w1 ⟨rfl, hb⟩
  have B1 := Lib.hid hb
  clear hb
  have BX := Lib.hid (below_al (below_al (Below.refl w1.heap.size w1) (.cells #[.int .i64 0, .int .i64 0, .int .i64 0] 27)) (.cells #[.string ⟨#[97]⟩, .string ⟨#[]⟩, .int .i64 4, .int .i64 0, .int .i64 0, .int .i64 0, .int .i64 0, .int .i64 0, .int .i64 0, .int .i64 0, .int .i64 0, .int .i64 1] 40))
  have I0 := Lib.hid (show IRow ((w1.alloc (.cells #[.int .i64 0, .int .i64 0, .int .i64 0] 27)).alloc (.cells #[.string ⟨#[97]⟩, .string ⟨#[]⟩, .int .i64 4, .int .i64 0, .int .i64 0, .int .i64 0, .int .i64 0, .int .i64 0, .int .i64 0, .int .i64 0, .int .i64 0, .int .i64 1] 40)) [a4I] (.slice (some ⟨w1.heap.size + 1, 0, none⟩) 1 1) from by
    have h0 := IBlk.new (w1.alloc (.cells #[.int .i64 0, .int .i64 0, .int .i64 0] 27)) a4I
    rw [show (w1.alloc (.cells #[.int .i64 0, .int .i64 0, .int .i64 0] 27)).heap.size = w1.heap.size + 1 by simp] at h0
    exact ⟨some ⟨w1.heap.size + 1, 0, none⟩, 1, rfl, Nat.le_refl _, by decide, fun i u hu => by
      cases i with
      | zero =>
        obtain rfl : a4I = u := by simpa using hu
        exact ⟨w1.heap.size + 1, 0, rfl, h0.cells⟩
      | succ i => simp at hu⟩)
  go_wp2_with fail
  with_reducible refine (R1.out _ _ I0.out).mono ?_
  rintro e w2 ⟨rfl, hb⟩
  have B2 := Lib.hid (below_tr (below_tr B1.out BX.out) hb)
  clear hb
  go_wp2_with fail
  go_ret
  exact ⟨rfl, below_al B2.out _⟩
end
end Go.Proofs.Ytffmmoligdoclaa
