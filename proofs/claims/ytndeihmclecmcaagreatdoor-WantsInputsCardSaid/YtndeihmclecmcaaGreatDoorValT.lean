/- Texts of values, on both sides. -/
import Derived.Test.YtndeihmclecmcaaGreatDoorValH
import Derived.Test.YtndeihmclecmcaaGreatDoorShelf
import Derived.Test.YtndeihmclecmcaaGreatDoorRfF
import Derived.Lib.SmallJoins
namespace Go.Proofs.YtndeihmclecmcaaGreatDoor
open Go.RowKit Go.Sort
set_option linter.unusedVariables false
set_option linter.unusedSimpArgs false

def boolT (b : Bool) : ByteArray := ⟨(Lib.formatBool b).toArray⟩
section
variable (w : World)
theorem vtext_s (v : VL) (lao : Option Addr) (ln lcap : Nat) (hk : v.kind = 2) : Calls Tryz.prog 181 #[.agg #[.int .i64 v.kind, .int .i64 v.num, .string v.text, .slice lao ln lcap]] w (Made (.tuple #[.string v.text, .int .i64 0]) w) := by
  go_enter Tryz.func181, Tryz.ntmps181
  go_wp2_with fail
  go_ret2
  exact ⟨rfl, below_al (Below.refl _ _) _⟩
theorem vtext_l (v : VL) (lao : Option Addr) (ln lcap : Nat) (hk : v.kind = 4) : Calls Tryz.prog 181 #[.agg #[.int .i64 v.kind, .int .i64 v.num, .string v.text, .slice lao ln lcap]] w (Made (.tuple #[.string ⟨#[]⟩, .int .i64 7]) w) := by
  go_enter Tryz.func181, Tryz.ntmps181
  go_wp2_with fail
  go_ret2
  exact ⟨rfl, below_al (Below.refl _ _) _⟩
theorem vtext_b (v : VL) (lao : Option Addr) (ln lcap : Nat) (hk : v.kind = 3) : Calls Tryz.prog 181 #[.agg #[.int .i64 v.kind, .int .i64 v.num, .string v.text, .slice lao ln lcap]] w (Made (.tuple #[.string (boolT (v.num == 1)), .int .i64 0]) w) := by
  have FB := Lib.hid (fun W => Tryz.strconv_FormatBool (v.num == 1) W)
  go_enter Tryz.func181, Tryz.ntmps181
  go_wp2_with fail
  with_reducible refine (FB.out _).mono ?_
  rintro e w1 ⟨rfl, rfl⟩
  go_wp2_with fail
  go_ret2
  exact ⟨rfl, below_al (Below.refl _ _) _⟩
/-- The library's table of powers is as it was laid. -/
def TabOK (w : World) : Prop := Lib.TabIs Tryz.prog w "internal/strconv.uint64pow10" .u64 Lib.pow10Tab
theorem gPow : Tryz.prog.globalNamed "internal/strconv.uint64pow10" = some 0 := by kernel_rfl
theorem TabOK.below {w w' : World} (h : TabOK w) (hb : Below w.heap.size w w') : TabOK w' := Joins.tab_stays gPow h hb (Nat.le_refl _)
theorem below_grow {B : Nat} {a w : World} (h : Below B a w) (hB : B ≤ w.heap.size) (os : Array Obj) : Below B a (grow w os) := by
  refine ⟨h.os, h.tape, h.output, ?_, fun b hb => ?_⟩
  · show a.heap.size ≤ (w.heap ++ os).size
    have := h.size; simp; omega
  · show (w.heap ++ os)[b]? = _
    rw [Array.getElem?_append_left (by omega)]
    exact h.block b hb
theorem below_set2 {B : Nat} {w W : World} (h : Below B w W) {g : Nat} (hg : B ≤ g) (v0 v1 : Value) : Below B w ((W.setCell ⟨g, 0, none⟩ v0).setCell ⟨g, 1, none⟩ v1) := (h.setCell hg _).setCell hg _
def itoaB (n : Int) : ByteArray := ⟨(Lib.itoa n).toArray⟩
set_option maxRecDepth 20000 in
theorem vtext_n (v : VL) (lao : Option Addr) (ln lcap : Nat) (hk : v.kind = 1) (hi : I64 v.num) (ht : TabOK w) : Calls Tryz.prog 181 #[.agg #[.int .i64 v.kind, .int .i64 v.num, .string v.text, .slice lao ln lcap]] w (Made (.tuple #[.string (itoaB v.num), .int .i64 0]) w) := by
  have FB := Lib.hid (fun W (hW : Below w.heap.size w W) => Tryz.strconv_Itoa v.num hi.1 hi.2 W (ht.below hW))
  clear hi ht
  go_enter Tryz.func181, Tryz.ntmps181
  go_wp2_with fail
  with_reducible refine (FB.out _ ?_).mono ?_
  · with_reducible exact below_al (Below.refl _ _) _
  rintro e w1 ⟨rfl, q, os, rfl⟩
  have B1 := Lib.hid (fun (O : Obj) => below_grow (below_drewN (below_al (Below.refl w.heap.size w) O) q) (by simp) os)
  go_wp2_with fail
  go_ret2
  exact ⟨rfl, B1.out _⟩
def textT (v : VL) : ByteArray × Int := if v.kind = 1 then (itoaB v.num, 0) else if v.kind = 2 then (v.text, 0) else if v.kind = 3 then (boolT (v.num == 1), 0) else (⟨#[]⟩, 7)
theorem vtext (v : VL) (lao : Option Addr) (ln lcap : Nat) (hi : I64 v.num) (hk : v.kind = 1 ∨ v.kind = 2 ∨ v.kind = 3 ∨ v.kind = 4) (ht : TabOK w) : Calls Tryz.prog 181 #[.agg #[.int .i64 v.kind, .int .i64 v.num, .string v.text, .slice lao ln lcap]] w (Made (.tuple #[.string (textT v).1, .int .i64 (textT v).2]) w) := by
  unfold textT
  rcases hk with h | h | h | h
  · rw [if_pos h]; exact vtext_n w v lao ln lcap h hi ht
  · rw [if_neg (by omega), if_pos h]; exact vtext_s w v lao ln lcap h
  · rw [if_neg (by omega), if_neg (by omega), if_pos h]; exact vtext_b w v lao ln lcap h
  · rw [if_neg (by omega), if_neg (by omega), if_neg (by omega)]; exact vtext_l w v lao ln lcap h
theorem bool_bytes : boolT true = ⟨#[116, 114, 117, 101]⟩ ∧ boolT false = ⟨#[102, 97, 108, 115, 101]⟩ := by constructor <;> kernel_rfl
end
end Go.Proofs.YtndeihmclecmcaaGreatDoor
