/- WantCircle: the rows that the law makes, reckoned. -/
import Derived.Test.YtmiadhcmhnjmfaaWnG
import Derived.Test.YtmiadhcmhnjmfaaDig
namespace Go.Proofs.Ytmiadhcmhnjmfaa
open Go.RowKit
set_option linter.unusedVariables false
set_option linter.unusedSimpArgs false
def tnL : List (List UInt8) := [[110, 48], [110, 49], [110, 50], [110, 51], [110, 52], [110, 53], [110, 54], [110, 55], [110, 56], [110, 57], [110, 49, 48], [110, 49, 49], [110, 49, 50], [110, 49, 51], [110, 49, 52], [110, 49, 53], [110, 49, 54], [110, 49, 55], [110, 49, 56], [110, 49, 57], [110, 50, 48], [110, 50, 49]]
def tn (i : Nat) : ByteArray := ⟨(tnL.getD i []).toArray⟩
def kNone : ByteArray := ⟨#[110, 111, 110, 101]⟩
def kN0 : ByteArray := ⟨#[110, 48]⟩
def circW (k : Nat) (last : ByteArray) : List W5 := (List.range k).map fun i => ⟨tn i, if i + 1 = k then last else tn (i + 1), ⟨k, 0, 0⟩⟩
theorem tn_eq : ∀ i : Nat, i < 22 → (⟨#[110]⟩ : ByteArray) ++ itoaB (i : Int) = tn i := by
  have h : (List.range 22).all (fun i : Nat => decide ((⟨#[110]⟩ : ByteArray) ++ itoaB ((i : Nat) : Int) = tn i)) = true := by kernel_rfl
  intro i hi
  have := List.all_eq_true.1 h i (List.mem_range.2 hi)
  simpa using this
def chkC (k : Nat) : Bool := decide (checkL (circW k kNone) = 2) && decide (checkL (circW k kN0) = 10) && decide (checkL (circW k ⟨#[]⟩) = 0) && ((List.range k).all fun i => decide (depthL (circW k ⟨#[]⟩) (tn i) = (k : Int) - (i : Int))) && decide (depthL (circW k ⟨#[]⟩) kNone = 0)
theorem chk_all : (List.range 20).all (fun n => chkC (n + 2)) = true := by kernel_rfl
end Go.Proofs.Ytmiadhcmhnjmfaa
