/- Admit: what package admit is asked for; the law's awake. -/
import Derived.Test.YtekaefeogbmmmaaAdC
import Derived.Test.YtekaefeogbmmmaaTrGr
import Derived.Test.YtekaefeogbmmmaaTrD
namespace Go.Proofs.Ytekaefeogbmmmaa
open Go.RowKit
set_option linter.unusedVariables false
set_option linter.unusedSimpArgs false
/-- A row and a number. -/
def AdT (E : Nat) (l' : List I12) (W : World) : Ending → World → Prop := fun e w' => ∃ rv, e = .returned (.tuple #[rv, .int .i64 (E : Int)]) ∧ Below W.heap.size W w' ∧ IRow w' (if E = 0 then l' else []) rv
def AdmC : Prop := ∀ (W : World) (l : List I12) (lv : Value) (s : ByteArray) (v : V3), IRow W l lv → RT l → s.size ≤ maxLen → Calls Try.prog 10 #[lv, .string s, .agg #[.int .i64 v.c, .int .i64 v.m, .int .i64 v.p]] W (AdT (admE l s v) (admL l s v) W)
def RelC : Prop := ∀ (W : World) (l : List I12) (lv : Value) (s : ByteArray) (v : V3), IRow W l lv → RT l → s.size ≤ maxLen → Calls Try.prog 12 #[lv, .string s, .agg #[.int .i64 v.c, .int .i64 v.m, .int .i64 v.p]] W (AdT (relE l s v) (relL l s v) W)
theorem num14 (w : World) (x : Int) : Calls Try.prog 15 #[.int .i64 x] w fun e w' => e = .returned (.int .i64 x) ∧ w = w' := by
  go_enter Try.func15, Try.ntmps15
  go_wp2_with fail
  go_ret
  exact ⟨rfl, rfl⟩
def a5I : I12 := ⟨⟨#[97]⟩, ⟨#[]⟩, ⟨5, 0, 0⟩, z3, z3, 1⟩
def b5I : I12 := ⟨⟨#[97]⟩, ⟨#[]⟩, ⟨5, 0, 0⟩, ⟨3, 0, 0⟩, ⟨3, 0, 0⟩, 1⟩
theorem a5_right : RT [a5I] := ⟨by decide, List.pairwise_singleton .., fun x hx => by
  obtain rfl : x = a5I := by simpa using hx
  kernel_rfl, fun x hx => by
  obtain rfl : x = a5I := by simpa using hx
  kernel_rfl⟩
theorem nil_adm : admE [] ⟨#[97]⟩ ⟨0, 0, 0⟩ = 2 := by kernel_rfl
theorem a5_adm : admE [a5I] ⟨#[97]⟩ ⟨3, 0, 0⟩ = 0 := by kernel_rfl
theorem a5_let : admL [a5I] ⟨#[97]⟩ ⟨3, 0, 0⟩ = [b5I] := by kernel_rfl
section
variable (w : World)
set_option maxHeartbeats 8000000 in
set_option maxRecDepth 20000 in
theorem law_awake14 (AC : AdmC) : Calls Try.prog 9 #[] w (Made (.bool true) w) := by
  have R0 := Lib.hid (fun W => AC W [] (.slice none 0 0) ⟨#[97]⟩ ⟨0, 0, 0⟩ (IRow.nil W) RT.nil (by decide))
  have R1 := Lib.hid (fun W lv (h : IRow W [a5I] lv) => AC W [a5I] lv ⟨#[97]⟩ ⟨3, 0, 0⟩ h a5_right (by decide))
  simp only [nil_adm] at R0
  simp only [a5_adm, a5_let] at R1
  have NU := Lib.hid (fun W x => num14 W x)
  clear AC
  go_enter Try.func9, Try.ntmps9
  go_wp2_with fail
  with_reducible refine (R0.out _).mono ?_
  rintro e w1 ⟨r1, rfl, hb, h1⟩
  have B1 := Lib.hid hb
  clear hb h1
  have BX := Lib.hid (below_al (Below.refl w1.heap.size w1) (.cells #[.string ⟨#[97]⟩, .string ⟨#[]⟩, .int .i64 5, .int .i64 0, .int .i64 0, .int .i64 0, .int .i64 0, .int .i64 0, .int .i64 0, .int .i64 0, .int .i64 0, .int .i64 1] 40))
  have I0 := Lib.hid (show IRow (w1.alloc (.cells #[.string ⟨#[97]⟩, .string ⟨#[]⟩, .int .i64 5, .int .i64 0, .int .i64 0, .int .i64 0, .int .i64 0, .int .i64 0, .int .i64 0, .int .i64 0, .int .i64 0, .int .i64 1] 40)) [a5I] (.slice (some ⟨w1.heap.size, 0, none⟩) 1 1) from by
    have h0 := IBlk.new w1 a5I
    exact ⟨some ⟨w1.heap.size, 0, none⟩, 1, rfl, Nat.le_refl _, by decide, fun i u hu => by
      cases i with
      | zero =>
        obtain rfl : a5I = u := by simpa using hu
        exact ⟨w1.heap.size, 0, rfl, h0.cells⟩
      | succ i => simp at hu⟩)
  go_wp2_with fail
  with_reducible refine (R1.out _ _ I0.out).mono ?_
  rintro e w2 ⟨r2, rfl, hb, h2⟩
  have B2 := Lib.hid (below_tr (below_tr B1.out BX.out) hb)
  rw [if_pos rfl] at h2
  obtain ⟨ao, ac, rfl, -, -, hat⟩ := h2
  obtain ⟨g, o, rfl, hc⟩ := hat 0 b5I rfl
  obtain ⟨k0, k1, k2, k3, k4, k5, k6, k7, k8, k9, k10, k11⟩ := hc
  simp only [b5I, Nat.zero_mul, Nat.add_zero, List.length_cons, List.length_nil, Nat.zero_add] at k0 k1 k2 k3 k4 k5 k6 k7 k8 k9 k10 k11
  clear hb hat R0 R1
  simp only [List.length_cons, List.length_nil, Nat.zero_add]
  go_wp2_with (go_at_call 15; (with_reducible refine (NU.out _ _).mono ?_); rintro e w'' ⟨rfl, rfl⟩)
  go_ret
  exact ⟨rfl, B2.out⟩
end
end Go.Proofs.Ytekaefeogbmmmaa
