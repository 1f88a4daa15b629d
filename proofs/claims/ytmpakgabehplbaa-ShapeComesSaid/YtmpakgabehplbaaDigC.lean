/- One byte as a text. -/
import Derived.Test.YtmpakgabehplbaaBase
import Derived.Laws.BytesArg
namespace Go.Proofs.Ytmpakgabehplbaa
open Go.RowKit
set_option linter.unusedVariables false
set_option linter.unusedSimpArgs false
theorem ddig_new (w : World) (cs : Array Value) (t : TypeId) : ∀ j u, cs.toList[j]? = some u → (w.alloc (.cells cs t)).cell? ((⟨w.heap.size, 0, none⟩ : Addr).add j) = some u := by
  intro j u hu
  have hadd : (⟨w.heap.size, 0, none⟩ : Addr).add j = ⟨w.heap.size, j, none⟩ := by unfold Addr.add; split <;> simp_all
  rw [hadd, cell_of_row _ _ j cs t (0, 0) (heap_alloc_new w _)]
  simpa using hu
theorem ddig_conv (wr : World) (x : Int) (c : UInt8) (hx : x = c.toNat) :
    Sem.run Try.prog (convert 46 9 (.slice (some ⟨wr.heap.size, 0, none⟩) 1 1)) (wr.alloc (.cells #[.int .u8 x] 5)) = .ok (.string ⟨#[c]⟩) (wr.alloc (.cells #[.int .u8 x] 5)) := by
  have h := run_convert_bytes_back (P := Try.prog) (wr.alloc (.cells #[.int .u8 x] 5)) 46 9 5 ⟨wr.heap.size, 0, none⟩ 1 [c] Try.underlying46 Try.underlying5 Try.underlying9 (by
    intro j hj
    have h0 : j = 0 := by simpa using hj
    subst h0
    exact ddig_new wr #[.int .u8 x] 5 0 _ (by simp [hx]))
  exact h
end Go.Proofs.Ytmpakgabehplbaa
