/- The document's Digits, of any number; texts of numbers. -/
import Derived.Test.YtlkdicabmikhkaaGreatDoorValMb
import Derived.Lib.ItoaNum
namespace Go.Proofs.YtlkdicabmikhkaaGreatDoor
open Go.RowKit
set_option linter.unusedVariables false
set_option linter.unusedSimpArgs false

def dgt (u : Nat) : UInt8 := UInt8.ofNat (48 + u % 10)
theorem dgt_val (u : Nat) : ((dgt u).toNat : Int) = 48 + (u : Int) % 10 := by
  unfold dgt
  have : (UInt8.ofNat (48 + u % 10)).toNat = (48 + u % 10) % 256 := by simp [UInt8.toNat_ofNat']
  rw [this]; omega
theorem dec_step {u : Nat} (h : 10 ≤ u) (acc : List UInt8) : Lib.decDigits (u / 10) ++ (dgt u :: acc) = Lib.decDigits u ++ acc := by
  conv => rhs; rw [Lib.decDigits, dif_neg (by omega)]
  rw [List.append_assoc]; rfl
theorem dec_end {u : Nat} (h : ¬ 10 ≤ u) (acc : List UInt8) : dgt u :: acc = Lib.decDigits u ++ acc := by
  rw [Lib.decDigits_one (by omega)]
  show _ = UInt8.ofNat (48 + u) :: acc
  unfold dgt; rw [Nat.mod_eq_of_lt (by omega)]
theorem dec_len : ∀ (k u : Nat), u < 10 ^ k → 0 < k → (Lib.decDigits u).length ≤ k := by
  intro k
  induction k with
  | zero => intro u _ h; omega
  | succ k ih =>
    intro u hu _
    by_cases h : u < 10
    · rw [Lib.decDigits_one h]; simp
    · rw [Lib.decDigits, dif_neg h]
      rw [Nat.pow_succ] at hu
      have hk : 0 < k := by
        rcases Nat.eq_zero_or_pos k with h0 | h0
        · subst h0; omega
        · exact h0
      have := ih (u / 10) (by omega) hk
      simp; exact this
theorem digs_cons (c : UInt8) (acc : List UInt8) : (⟨#[c]⟩ : ByteArray) ++ ⟨acc.toArray⟩ = ⟨(c :: acc).toArray⟩ := by
  apply ByteArray.ext; simp [ByteArray.data_append]
def DgRel (U : Nat) (w : World) (m : Nat) (uv sv : Value) (wr : World) : Prop :=
  ∃ u acc, uv = .int .u64 (u : Nat) ∧ sv = .string ⟨acc.toArray⟩ ∧ u ≤ m ∧ u ≤ 9223372036854775808 ∧ Lib.decDigits u ++ acc = Lib.decDigits U ∧ Below w.heap.size w wr
section
variable (w : World)
set_option maxHeartbeats 4000000 in
set_option maxRecDepth 20000 in
theorem rdigs_pos (U : Nat) (hU : U ≤ 9223372036854775807) : Calls Tryz.prog 6 #[.int .i64 (U : Int)] w (Made (.string ⟨(Lib.decDigits U).toArray⟩) w) := by
  have h0 : ¬ ((U : Int) < 0) := by omega
  have LU := Lib.hid (dec_len 19 U (by omega) (by omega))
  go_enter Tryz.func6, Tryz.ntmps6
  go_wp2_with fail
  go_loopg [3, 4] U (fun m uv sv wr => DgRel U w m uv sv wr)
  case atStart => exact ⟨U, [], rfl, rfl, Nat.le_refl _, by omega, by simp, Below.refl _ _⟩
  case round =>
    obtain ⟨u, acc, rfl, rfl, hm, hu, he, hb⟩ := hrel
    have HM := Lib.hid hm
    have HE := Lib.hid he
    have HB := Lib.hid hb
    have SC := Lib.hid (digs_cons (dgt u) acc)
    have hsz : (⟨acc.toArray⟩ : ByteArray).size ≤ 19 := by
      have h1 := congrArg List.length he
      rw [List.length_append] at h1
      have := LU.out
      simp [ByteArray.size]; omega
    have hs1 : (⟨#[dgt u]⟩ : ByteArray).size = 1 := rfl
    clear hm he hb h0
    by_cases h10 : 10 ≤ u
    · have hcv := dig_conv wr (48 + (u : Int) % 10) (dgt u) (dgt_val u).symm
      have ST := Lib.hid ((dec_step h10 acc).trans HE.out)
      have hlt : u / 10 < u := by omega
      have LT := Lib.hid hlt
      have hu2 : u / 10 ≤ 9223372036854775808 := by omega
      have U2 := Lib.hid hu2
      clear hlt hu2
      go_wp2_with fail
      go_roundg (u / 10)
      case rel => exact ⟨u / 10, dgt u :: acc, congrArg _ (by omega), by rw [SC.out], Nat.le_refl _, U2.out, ST.out, HB.out.alloc HB.out.size _⟩
      case measure => have := HM.out; have := LT.out; omega
    · have hcv := dig_conv wr (48 + (u : Int)) (dgt u) (by rw [dgt_val u]; omega)
      have ST := Lib.hid ((dec_end h10 acc).trans HE.out)
      have h0 : ¬ ((U : Int) < 0) := by omega
      go_wp2_with fail
      go_ret
      exact ⟨by rw [SC.out, ST.out]; rfl, HB.out.alloc HB.out.size _⟩
set_option maxHeartbeats 4000000 in
set_option maxRecDepth 20000 in
theorem rdigs_neg (U : Nat) (hU : U ≤ 9223372036854775808) (h1 : 0 < U) : Calls Tryz.prog 6 #[.int .i64 (-(U : Int))] w (Made (.string ⟨(45 :: Lib.decDigits U).toArray⟩) w) := by
  have h0 : (-(U : Int)) < 0 := by omega
  have LU := Lib.hid (dec_len 20 U (by omega) (by omega))
  go_enter Tryz.func6, Tryz.ntmps6
  go_wp2_with fail
  have W2 := Lib.hid (show IntKind.u64.wrap (-IntKind.u64.wrap (-(U : Int))) = (U : Int) by rw [IntKind.wrap_u64, IntKind.wrap_u64]; omega)
  go_loopg [3, 4] U (fun m uv sv wr => DgRel U w m uv sv wr)
  case atStart => exact ⟨U, [], by rw [W2.out], rfl, Nat.le_refl _, by omega, by simp, Below.refl _ _⟩
  case round =>
    obtain ⟨u, acc, rfl, rfl, hm, hu, he, hb⟩ := hrel
    have HM := Lib.hid hm
    have HE := Lib.hid he
    have HB := Lib.hid hb
    have SC := Lib.hid (digs_cons (dgt u) acc)
    have hsz : (⟨acc.toArray⟩ : ByteArray).size ≤ 20 := by
      have h1 := congrArg List.length he
      rw [List.length_append] at h1
      have := LU.out
      simp [ByteArray.size]; omega
    have hs1 : (⟨#[dgt u]⟩ : ByteArray).size = 1 := rfl
    clear hm he hb h0
    by_cases h10 : 10 ≤ u
    · have hcv := dig_conv wr (48 + (u : Int) % 10) (dgt u) (dgt_val u).symm
      have ST := Lib.hid ((dec_step h10 acc).trans HE.out)
      have hlt : u / 10 < u := by omega
      have LT := Lib.hid hlt
      have hu2 : u / 10 ≤ 9223372036854775808 := by omega
      have U2 := Lib.hid hu2
      clear hlt hu2
      go_wp2_with fail
      go_roundg (u / 10)
      case rel => exact ⟨u / 10, dgt u :: acc, congrArg _ (by omega), by rw [SC.out], Nat.le_refl _, U2.out, ST.out, HB.out.alloc HB.out.size _⟩
      case measure => have := HM.out; have := LT.out; omega
    · have hcv := dig_conv wr (48 + (u : Int)) (dgt u) (by rw [dgt_val u]; omega)
      have ST := Lib.hid ((dec_end h10 acc).trans HE.out)
      have h0 : (-(U : Int)) < 0 := by omega
      have S3 := Lib.hid (digs_cons 45 (Lib.decDigits U))
      have hal : acc.length ≤ 20 := by simpa [ByteArray.size] using hsz
      have hs3 : ¬ 9223372036854775807 < 1 + (1 + acc.length) := by omega
      go_wp2_with fail
      go_ret
      exact ⟨by rw [SC.out, ST.out, ← S3.out]; rfl, HB.out.alloc HB.out.size _⟩
end
end Go.Proofs.YtlkdicabmikhkaaGreatDoor
