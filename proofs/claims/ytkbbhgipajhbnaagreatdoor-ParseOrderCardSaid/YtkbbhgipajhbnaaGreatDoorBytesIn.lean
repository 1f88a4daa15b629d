/- Slices of bytes that came in. -/
import Derived.Test.YtkbbhgipajhbnaaGreatDoorLexI0
import Derived.ProofKit
import Derived.ChangeSlices
import Derived.ChangeOld
import Derived.OpenShut
import Derived.ShutString
import Derived.LaidMore
namespace Go.Proofs.YtkbbhgipajhbnaaGreatDoor
open Go.ChangeShapes Go.WideShapes Go.ChangeAt Go.RowKit
set_option linter.unusedVariables false
def BytesRd (w : World) (v : Value) (xs : List Nat) : Prop := Rds w v xs.length (xs.map fun x : Nat => Value.int .u8 (x : Int))
theorem cells5 : Tryz.prog.cellsOf 5 = 1 := by kernel_rfl
set_option maxRecDepth 100000 in
/-- A slice of bytes that came in. -/
theorem open_u8s {H : Type} {enc : TypeId × Value → H} {W : World} {base : Nat} {v : Value} {d : DataW H} {p : List MemPlace} (hval : Value.okWide Tryz.prog W .any base 22 v) (h : DataW.Trod enc Tryz.prog W 0 (fun _ => true) true 22 v d p) :
    ∃ xs : List Nat, BytesRd W v xs ∧ (∀ x ∈ xs, x < 256) ∧ xs.length ≤ maxLen := by
  obtain ⟨a0, len, cap, rfl⟩ := okWide_slice Tryz.underlying22 hval
  obtain ⟨fuel, hf⟩ := h
  rcases open_ints Tryz.underlying22 Tryz.underlying5 cells5 hf with ⟨hcs, hx⟩ | ⟨a, len', cap', zs, hcs, _, hl, hm, hz, hx, hcell, hwz⟩
  · simp [Value.cells] at hcs
    obtain ⟨rfl, rfl, rfl⟩ := hcs
    exact ⟨[], ⟨none, 0, rfl, fun j u h => by simp at h⟩, (fun x h => by cases h), Nat.zero_le _⟩
  · simp [Value.cells] at hcs
    obtain ⟨rfl, rfl, rfl⟩ := hcs
    simp only [if_true] at hz
    have hnat : ∀ n ∈ zs, 0 ≤ n ∧ n ≤ 255 := fun n hn => by
      have := hwz n hn
      simp only [Lit.wf, Bool.and_eq_true, decide_eq_true_eq] at this
      exact this
    refine ⟨(zs.take len).map Int.toNat, ?_, fun x hx => ?_, by simp; omega⟩
    · have hln : ((zs.take len).map Int.toNat).length = len := by simp; omega
      refine ⟨some a, cap, by rw [hln], fun j u hj => ?_⟩
      rw [List.getElem?_map, List.getElem?_map] at hj
      obtain ⟨m, hm1, rfl⟩ := Option.map_eq_some_iff.1 hj
      obtain ⟨n, hn1, rfl⟩ := Option.map_eq_some_iff.1 hm1
      have hjl : j < len := by
        have := (List.getElem?_eq_some_iff.1 hn1).1
        simp at this; omega
      obtain ⟨ab, ao, spot⟩ := a
      have hspot : spot = none := by simpa [Addr.add] using World.cell?_spot (hcell 0 (by omega))
      subst hspot
      refine ⟨ab, ao, rfl, ?_⟩
      have hcj := hcell j (by omega)
      rw [Addr.add_lit] at hcj
      rw [hcj]
      have hzj : zs[j]? = some n := by rw [List.getElem?_take] at hn1; simpa [hjl] using hn1
      have hn0 := hnat n (List.mem_of_getElem? hzj)
      rw [List.getD_eq_getElem?_getD, hzj]
      show some (Value.int .u8 n) = some (Value.int .u8 ((n.toNat : Nat) : Int))
      rw [Int.toNat_of_nonneg hn0.1]
    · obtain ⟨n, hn, rfl⟩ := List.mem_map.1 hx
      have := hnat n (List.mem_of_mem_take hn)
      omega

end Go.Proofs.YtkbbhgipajhbnaaGreatDoor
