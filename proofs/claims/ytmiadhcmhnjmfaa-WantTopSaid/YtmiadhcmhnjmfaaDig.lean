/- The document's Digits, of any number: the decimal numeral (for seats of the later stages: no value is named). -/
import Derived.Test.YtmiadhcmhnjmfaaBase
import Derived.Laws.BytesArg
import Derived.Lib.ItoaNum
import Derived.Lib.ItoaLen
import Derived.Lib.SmallJoins
namespace Go.Proofs.Ytmiadhcmhnjmfaa
open Go.RowKit
set_option linter.unusedVariables false
set_option linter.unusedSimpArgs false

theorem ddig_new (w : World) (cs : Array Value) (t : TypeId) : ∀ j u, cs.toList[j]? = some u → (w.alloc (.cells cs t)).cell? ((⟨w.heap.size, 0, none⟩ : Addr).add j) = some u := by
  intro j u hu
  have hadd : (⟨w.heap.size, 0, none⟩ : Addr).add j = ⟨w.heap.size, j, none⟩ := by unfold Addr.add; split <;> simp_all
  rw [hadd, cell_of_row _ _ j cs t (0, 0) (heap_alloc_new w _)]
  simpa using hu
theorem ddig_conv (wr : World) (x : Int) (c : UInt8) (hx : x = c.toNat) :
    Sem.run Try.prog (convert 33 9 (.slice (some ⟨wr.heap.size, 0, none⟩) 1 1)) (wr.alloc (.cells #[.int .u8 x] 5)) = .ok (.string ⟨#[c]⟩) (wr.alloc (.cells #[.int .u8 x] 5)) := by
  have h := run_convert_bytes_back (P := Try.prog) (wr.alloc (.cells #[.int .u8 x] 5)) 33 9 5 ⟨wr.heap.size, 0, none⟩ 1 [c] Try.underlying33 Try.underlying5 Try.underlying9 (by
    intro j hj
    have h0 : j = 0 := by simpa using hj
    subst h0
    exact ddig_new wr #[.int .u8 x] 5 0 _ (by simp [hx]))
  exact h
def ddgt (u : Nat) : UInt8 := UInt8.ofNat (48 + u % 10)
theorem ddgt_val (u : Nat) : ((ddgt u).toNat : Int) = 48 + (u : Int) % 10 := by
  unfold ddgt
  have : (UInt8.ofNat (48 + u % 10)).toNat = (48 + u % 10) % 256 := by simp [UInt8.toNat_ofNat']
  rw [this]; omega
theorem ddec_step {u : Nat} (h : 10 ≤ u) (acc : List UInt8) : Lib.decDigits (u / 10) ++ (ddgt u :: acc) = Lib.decDigits u ++ acc := by
  conv => rhs; rw [Lib.decDigits, dif_neg (by omega)]
  rw [List.append_assoc]; rfl
theorem ddec_end {u : Nat} (h : ¬ 10 ≤ u) (acc : List UInt8) : ddgt u :: acc = Lib.decDigits u ++ acc := by
  rw [Lib.decDigits_one (by omega)]
  show _ = UInt8.ofNat (48 + u) :: acc
  unfold ddgt; rw [Nat.mod_eq_of_lt (by omega)]
theorem ddec_len : ∀ (k u : Nat), u < 10 ^ k → 0 < k → (Lib.decDigits u).length ≤ k := by
  intro k
  induction k with
  | zero => intro u _ h; omega
  | succ k ih =>
    intro u hu _
    by_cases h : u < 10
    · rw [Lib.decDigits_one h]; simp
    · rw [Lib.decDigits, dif_neg h]
      rw [Nat.pow_succ] at hu
      have hk : 0 < k := by
        rcases Nat.eq_zero_or_pos k with h0 | h0
        · subst h0; omega
        · exact h0
      have := ih (u / 10) (by omega) hk
      simp; exact this
theorem ddigs_cons (c : UInt8) (acc : List UInt8) : (⟨#[c]⟩ : ByteArray) ++ ⟨acc.toArray⟩ = ⟨(c :: acc).toArray⟩ := by
  apply ByteArray.ext; simp [ByteArray.data_append]
def DDgRel (U : Nat) (w : World) (m : Nat) (uv sv : Value) (wr : World) : Prop :=
  ∃ u acc, uv = .int .u64 (u : Nat) ∧ sv = .string ⟨acc.toArray⟩ ∧ u ≤ m ∧ u ≤ 9223372036854775808 ∧ Lib.decDigits u ++ acc = Lib.decDigits U ∧ Below w.heap.size w wr
section
variable (w : World)
set_option maxHeartbeats 4000000 in
set_option maxRecDepth 20000 in
theorem drdigs_pos (U : Nat) (hU : U ≤ 9223372036854775807) : Calls Try.prog 19 #[.int .i64 (U : Int)] w (Made (.string ⟨(Lib.decDigits U).toArray⟩) w) := by
  have h0 : ¬ ((U : Int) < 0) := by omega
  have LU := Lib.hid (ddec_len 19 U (by omega) (by omega))
  go_enter Try.func19, Try.ntmps19
  go_wp2_with fail
  go_loopg [3, 4] U (fun m uv sv wr => DDgRel U w m uv sv wr)
  case atStart => exact ⟨U, [], rfl, rfl, Nat.le_refl _, by omega, by simp, Below.refl _ _⟩
  case round =>
    obtain ⟨u, acc, rfl, rfl, hm, hu, he, hb⟩ := hrel
    have HM := Lib.hid hm
    have HE := Lib.hid he
    have HB := Lib.hid hb
    have SC := Lib.hid (ddigs_cons (ddgt u) acc)
    have hsz : (⟨acc.toArray⟩ : ByteArray).size ≤ 19 := by
      have h1 := congrArg List.length he
      rw [List.length_append] at h1
      have := LU.out
      simp [ByteArray.size]; omega
    have hs1 : (⟨#[ddgt u]⟩ : ByteArray).size = 1 := rfl
    clear hm he hb h0
    by_cases h10 : 10 ≤ u
    · have hcv := ddig_conv wr (48 + (u : Int) % 10) (ddgt u) (ddgt_val u).symm
      have ST := Lib.hid ((ddec_step h10 acc).trans HE.out)
      have hlt : u / 10 < u := by omega
      have LT := Lib.hid hlt
      have hu2 : u / 10 ≤ 9223372036854775808 := by omega
      have U2 := Lib.hid hu2
      clear hlt hu2
      go_wp2_with fail
      go_roundg (u / 10)
      case rel => exact ⟨u / 10, ddgt u :: acc, congrArg _ (by omega), by rw [SC.out], Nat.le_refl _, U2.out, ST.out, HB.out.alloc HB.out.size _⟩
      case measure => have := HM.out; have := LT.out; omega
    · have hcv := ddig_conv wr (48 + (u : Int)) (ddgt u) (by rw [ddgt_val u]; omega)
      have ST := Lib.hid ((ddec_end h10 acc).trans HE.out)
      have h0 : ¬ ((U : Int) < 0) := by omega
      go_wp2_with fail
      go_ret
      exact ⟨by rw [SC.out, ST.out]; rfl, HB.out.alloc HB.out.size _⟩
set_option maxHeartbeats 4000000 in
set_option maxRecDepth 20000 in
theorem drdigs_neg (U : Nat) (hU : U ≤ 9223372036854775808) (h1 : 0 < U) : Calls Try.prog 19 #[.int .i64 (-(U : Int))] w (Made (.string ⟨(45 :: Lib.decDigits U).toArray⟩) w) := by
  have h0 : (-(U : Int)) < 0 := by omega
  have LU := Lib.hid (ddec_len 20 U (by omega) (by omega))
  go_enter Try.func19, Try.ntmps19
  go_wp2_with fail
  have W2 := Lib.hid (show IntKind.u64.wrap (-IntKind.u64.wrap (-(U : Int))) = (U : Int) by rw [IntKind.wrap_u64, IntKind.wrap_u64]; omega)
  go_loopg [3, 4] U (fun m uv sv wr => DDgRel U w m uv sv wr)
  case atStart => exact ⟨U, [], by rw [W2.out], rfl, Nat.le_refl _, by omega, by simp, Below.refl _ _⟩
  case round =>
    obtain ⟨u, acc, rfl, rfl, hm, hu, he, hb⟩ := hrel
    have HM := Lib.hid hm
    have HE := Lib.hid he
    have HB := Lib.hid hb
    have SC := Lib.hid (ddigs_cons (ddgt u) acc)
    have hsz : (⟨acc.toArray⟩ : ByteArray).size ≤ 20 := by
      have h1 := congrArg List.length he
      rw [List.length_append] at h1
      have := LU.out
      simp [ByteArray.size]; omega
    have hs1 : (⟨#[ddgt u]⟩ : ByteArray).size = 1 := rfl
    clear hm he hb h0
    by_cases h10 : 10 ≤ u
    · have hcv := ddig_conv wr (48 + (u : Int) % 10) (ddgt u) (ddgt_val u).symm
      have ST := Lib.hid ((ddec_step h10 acc).trans HE.out)
      have hlt : u / 10 < u := by omega
      have LT := Lib.hid hlt
      have hu2 : u / 10 ≤ 9223372036854775808 := by omega
      have U2 := Lib.hid hu2
      clear hlt hu2
      go_wp2_with fail
      go_roundg (u / 10)
      case rel => exact ⟨u / 10, ddgt u :: acc, congrArg _ (by omega), by rw [SC.out], Nat.le_refl _, U2.out, ST.out, HB.out.alloc HB.out.size _⟩
      case measure => have := HM.out; have := LT.out; omega
    · have hcv := ddig_conv wr (48 + (u : Int)) (ddgt u) (by rw [ddgt_val u]; omega)
      have ST := Lib.hid ((ddec_end h10 acc).trans HE.out)
      have h0 : (-(U : Int)) < 0 := by omega
      have S3 := Lib.hid (ddigs_cons 45 (Lib.decDigits U))
      have hal : acc.length ≤ 20 := by simpa [ByteArray.size] using hsz
      have hs3 : ¬ 9223372036854775807 < 1 + (1 + acc.length) := by omega
      go_wp2_with fail
      go_ret
      exact ⟨by rw [SC.out, ST.out, ← S3.out]; rfl, HB.out.alloc HB.out.size _⟩
/-- The document's Digits: the decimal numeral. -/
theorem drdigs (n : Int) (h : -9223372036854775808 ≤ n ∧ n ≤ 9223372036854775807) : Calls Try.prog 19 #[.int .i64 n] w (Made (.string ⟨(Lib.itoa n).toArray⟩) w) := by
  unfold Lib.itoa
  by_cases hn : n < 0
  · rw [if_pos hn]
    have e : n = -((n.natAbs : Nat) : Int) := by omega
    have h2 := drdigs_neg w n.natAbs (by omega) (by omega)
    rw [← e] at h2
    exact h2
  · rw [if_neg hn]
    have e : n = ((n.toNat : Nat) : Int) := by omega
    have h2 := drdigs_pos w n.toNat (by omega)
    rw [← e] at h2
    exact h2
def itoaB (n : Int) : ByteArray := ⟨(Lib.itoa n).toArray⟩
theorem itoaB_size (n : Int) (h : -9223372036854775808 ≤ n ∧ n ≤ 9223372036854775807) : (itoaB n).size ≤ 21 := by
  have := Lib.itoa_length_le n h.1 h.2
  simpa [itoaB, ByteArray.size] using this
end
end Go.Proofs.Ytmiadhcmhnjmfaa
