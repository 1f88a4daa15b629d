/- The document's Digits, as a walk. -/
import Derived.Test.YtkbbhgipajhbnaaDoorLexW0
import Derived.Test.YtkbbhgipajhbnaaDoorLexF
import Derived.Laws.BytesArg
namespace Go.Proofs.YtkbbhgipajhbnaaDoor
open Go.RowKit
set_option linter.unusedVariables false
set_option linter.unusedSimpArgs false

def DigRel (k : Nat) (w : World) (m : Nat) (uv sv : Value) (wr : World) : Prop :=
  ∃ u acc, uv = .int .u64 (u : Nat) ∧ sv = .string ⟨acc.toArray⟩ ∧ u ≤ m ∧ u ≤ 9223372036854775807 ∧ decTo u acc = decTo k [] ∧ Below w.heap.size w wr
theorem conv_one (wr : World) (x : Int) (c : UInt8) (hx : x = c.toNat) :
    Sem.run Tryd.prog (convert 22 9 (.slice (some ⟨wr.heap.size, 0, none⟩) 1 1)) (wr.alloc (.cells #[.int .u8 x] 5)) = .ok (.string ⟨#[c]⟩) (wr.alloc (.cells #[.int .u8 x] 5)) := by
  have h := run_convert_bytes_back (P := Tryd.prog) (wr.alloc (.cells #[.int .u8 x] 5)) 22 9 5 ⟨wr.heap.size, 0, none⟩ 1 [c] Tryd.underlying22 Tryd.underlying5 Tryd.underlying9 (by
    intro j hj
    have h0 : j = 0 := by simpa using hj
    subst h0
    exact news_new wr #[.int .u8 x] 5 0 _ (by simp [hx]))
  exact h
theorem str_cons (c : UInt8) (acc : List UInt8) : (⟨#[c]⟩ : ByteArray) ++ ⟨acc.toArray⟩ = ⟨(c :: acc).toArray⟩ := by
  apply ByteArray.ext; simp [ByteArray.data_append]
theorem decAt_gt : ∀ n u acc, acc.length < (decAt n u acc).length := by
  intro n
  induction n with
  | zero => intro u acc; simp [decAt]
  | succ n ih =>
    intro u acc
    rw [decAt]
    split
    · have := ih (u / 10) (dch u :: acc)
      simp at this; omega
    · simp
section
variable (w : World)
set_option maxHeartbeats 4000000 in
set_option maxRecDepth 20000 in
theorem rdigits_any (k : Nat) (x : Int) (hx : x = k) (hk : k ≤ 9223372036854775807) :
    Calls Tryd.prog 6 #[.int .i64 x] w (Made (.string (decB k)) w) := by
  subst hx
  have h0 : ¬ ((k : Int) < 0) := by omega
  go_enter Tryd.func6, Tryd.ntmps6
  go_wp2_with fail
  go_loopg [3, 4] k (fun m uv sv wr => DigRel k w m uv sv wr)
  case atStart => exact ⟨k, [], rfl, rfl, Nat.le_refl _, hk, rfl, Below.refl _ _⟩
  case round =>
    obtain ⟨u, acc, rfl, rfl, hm, hu, he, hb⟩ := hrel
    have HM := Lib.hid hm
    have HE := Lib.hid he
    have HB := Lib.hid hb
    clear hm he hb h0
    have SC := Lib.hid (str_cons (dch u) acc)
    have hal : acc.length ≤ 19 := by
      have h1 := decAt_gt u u acc
      have h2 := decB_size k hk
      have h3 : decAt u u acc = decTo k [] := HE.out
      rw [h3] at h1
      have h4 : (decB k).size = (decTo k []).length := by simp [decB, ByteArray.size]
      omega
    have hsz : (⟨acc.toArray⟩ : ByteArray).size ≤ 19 := by simpa [ByteArray.size] using hal
    have hs1 : (⟨#[dch u]⟩ : ByteArray).size = 1 := rfl
    by_cases h10 : 10 ≤ u
    · have hcv := conv_one wr (48 + (u : Int) % 10) (dch u) (by have := dch_val u; omega)
      have ST := Lib.hid ((decTo_step (acc := acc) h10).symm.trans HE.out)
      have hlt : u / 10 < u := by omega
      have LT := Lib.hid hlt
      have hu2 : u / 10 ≤ 9223372036854775807 := by omega
      have U2 := Lib.hid hu2
      clear hlt hu2
      go_wp2_with fail
      go_roundg (u / 10)
      case rel => exact ⟨u / 10, dch u :: acc, congrArg _ (by omega), by rw [SC.out], Nat.le_refl _, U2.out, ST.out, HB.out.alloc HB.out.size _⟩
      case measure => have := HM.out; have := LT.out; omega
    · have hcv := conv_one wr (48 + (u : Int)) (dch u) (by have := dch_val u; omega)
      have ST := Lib.hid ((decTo_end (acc := acc) h10).symm.trans HE.out)
      have h0 : ¬ ((k : Int) < 0) := by omega
      go_wp2_with fail
      go_ret
      exact ⟨by rw [SC.out, ST.out]; rfl, HB.out.alloc HB.out.size _⟩
end
end Go.Proofs.YtkbbhgipajhbnaaDoor
