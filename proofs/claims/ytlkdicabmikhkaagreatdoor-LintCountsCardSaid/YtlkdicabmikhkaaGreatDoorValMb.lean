/- The document's Digits at one sign. -/
import Derived.Test.YtlkdicabmikhkaaGreatDoorOwn
import Derived.Laws.BytesArg
namespace Go.Proofs.YtlkdicabmikhkaaGreatDoor
open Go.RowKit
set_option linter.unusedVariables false
set_option linter.unusedSimpArgs false

theorem dig_new (w : World) (cs : Array Value) (t : TypeId) : ∀ j u, cs.toList[j]? = some u → (w.alloc (.cells cs t)).cell? ((⟨w.heap.size, 0, none⟩ : Addr).add j) = some u := by
  intro j u hu
  have hadd : (⟨w.heap.size, 0, none⟩ : Addr).add j = ⟨w.heap.size, j, none⟩ := by unfold Addr.add; split <;> simp_all
  rw [hadd, cell_of_row _ _ j cs t (0, 0) (heap_alloc_new w _)]
  simpa using hu
theorem dig_conv (wr : World) (x : Int) (c : UInt8) (hx : x = c.toNat) :
    Sem.run Tryz.prog (convert 48 9 (.slice (some ⟨wr.heap.size, 0, none⟩) 1 1)) (wr.alloc (.cells #[.int .u8 x] 5)) = .ok (.string ⟨#[c]⟩) (wr.alloc (.cells #[.int .u8 x] 5)) := by
  have h := run_convert_bytes_back (P := Tryz.prog) (wr.alloc (.cells #[.int .u8 x] 5)) 48 9 5 ⟨wr.heap.size, 0, none⟩ 1 [c] Tryz.underlying48 Tryz.underlying5 Tryz.underlying9 (by
    intro j hj
    have h0 : j = 0 := by simpa using hj
    subst h0
    exact dig_new wr #[.int .u8 x] 5 0 _ (by simp [hx]))
  exact h
section
variable (w : World)
set_option maxHeartbeats 4000000 in
set_option maxRecDepth 20000 in
theorem rdig1 (k : Nat) (c : UInt8) (hk : k ≤ 2) (hc : 48 + (k : Int) = c.toNat) :
    Calls Tryz.prog 6 #[.int .i64 (k : Int)] w (Made (.string ⟨#[c]⟩) w) := by
  have h0 : ¬ ((k : Int) < 0) := by omega
  have CV := Lib.hid (fun wr => dig_conv wr (48 + (k : Int)) c hc)
  have hs1 : (⟨#[c]⟩ : ByteArray).size = 1 := rfl
  have hs2 : (⟨#[c]⟩ : ByteArray) ++ (⟨#[]⟩ : ByteArray) = ⟨#[c]⟩ := by apply ByteArray.ext; simp [ByteArray.data_append]
  have S2 := Lib.hid hs2
  clear hs2 hc
  go_enter Tryz.func6, Tryz.ntmps6
  go_wp2_with fail
  go_loopg [3, 4] 0 (fun m uv sv wr => uv = .int .u64 (k : Int) ∧ sv = .string ⟨#[]⟩ ∧ wr = w)
  case atStart => exact ⟨rfl, rfl, rfl⟩
  case round =>
    obtain ⟨rfl, rfl, rfl⟩ := hrel
    have hcv := CV.out wr
    have h10 : ¬ 10 ≤ k := by omega
    have h0 : ¬ ((k : Int) < 0) := by omega
    go_wp2_with fail
    go_ret
    exact ⟨by rw [S2.out]; rfl, below_al (Below.refl _ _) _⟩
end
end Go.Proofs.YtlkdicabmikhkaaGreatDoor
