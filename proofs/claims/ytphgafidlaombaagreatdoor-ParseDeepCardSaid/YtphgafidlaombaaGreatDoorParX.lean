/- The law of depth, walked. -/
import Derived.Test.YtphgafidlaombaaGreatDoorParV
import Derived.Test.YtphgafidlaombaaGreatDoorParW0
import Derived.Test.YtphgafidlaombaaGreatDoorParW1
import Derived.Test.YtphgafidlaombaaGreatDoorParW2
import Derived.Test.YtphgafidlaombaaGreatDoorParW3
import Derived.Test.YtphgafidlaombaaGreatDoorParW4
import Derived.Test.YtphgafidlaombaaGreatDoorParW5
import Derived.Test.YtphgafidlaombaaGreatDoorParW6
namespace Go.Proofs.YtphgafidlaombaaGreatDoor
open Go.RowKit
set_option linter.unusedVariables false
set_option linter.unusedSimpArgs false
theorem deepAll (h k : Nat) (hh : h < 6) (hk : k < 80) : deepOk h k = true := by
  have m : k ∈ List.range 80 := List.mem_range.2 hk
  match h, hh with
  | 0, _ => exact List.all_eq_true.1 deep0 k m
  | 1, _ => exact List.all_eq_true.1 deep1 k m
  | 2, _ => exact (by
    have h : ∀ i, i < 8 → (List.range' (10 * i) 10).all (deepOk 2) = true := fun i hi => match i, hi with
      | 0, _ => deep2_0
      | 1, _ => deep2_1
      | 2, _ => deep2_2
      | 3, _ => deep2_3
      | 4, _ => deep2_4
      | 5, _ => deep2_5
      | 6, _ => deep2_6
      | 7, _ => deep2_7
    exact List.all_eq_true.1 (h (k / 10) (by omega)) k (List.mem_range'_1.2 ⟨by omega, by omega⟩))
  | 3, _ => exact List.all_eq_true.1 deep3 k m
  | 4, _ => exact List.all_eq_true.1 deep4 k m
  | 5, _ => exact (by
    have h : ∀ i, i < 8 → (List.range' (10 * i) 10).all (deepOk 5) = true := fun i hi => match i, hi with
      | 0, _ => deep5_0
      | 1, _ => deep5_1
      | 2, _ => deep5_2
      | 3, _ => deep5_3
      | 4, _ => deep5_4
      | 5, _ => deep5_5
      | 6, _ => deep5_6
      | 7, _ => deep5_7
    exact List.all_eq_true.1 (h (k / 10) (by omega)) k (List.mem_range'_1.2 ⟨by omega, by omega⟩))
def bA : List ByteArray := [⟨#[40]⟩, ⟨#[91]⟩, ⟨#[102, 40]⟩, ⟨#[45]⟩, ⟨#[33]⟩, ⟨#[116, 114, 117, 101, 32, 63, 32]⟩]
def bB : List ByteArray := [⟨#[41]⟩, ⟨#[93]⟩, ⟨#[41]⟩, ⟨#[]⟩, ⟨#[]⟩, ⟨#[32, 58, 32, 48]⟩]
/-- A text again and again, as the law's loop makes it. -/
def repB (a : ByteArray) : Nat → ByteArray
  | 0 => ⟨#[]⟩
  | k + 1 => repB a k ++ a
theorem rep_comm (a : List UInt8) : ∀ k, a ++ rep a k = rep a k ++ a := by
  intro k
  induction k with
  | zero => simp [rep]
  | succ k ih => rw [rep, ih, ← List.append_assoc, ← ih]
theorem repB_list (a : ByteArray) : ∀ k, (repB a k).data.toList = rep a.data.toList k := by
  intro k
  induction k with
  | zero => rfl
  | succ k ih => rw [repB, rep, rep_comm, ← ih]; simp
theorem repB_size (a : ByteArray) (h : a.size ≤ 10) : ∀ k, (repB a k).size ≤ 10 * k := by
  intro k
  induction k with
  | zero => exact Nat.le_refl _
  | succ k ih => rw [repB, ByteArray.size_append]; omega
theorem deep_text (h k : Nat) (hh : h < 6) (hk : k < 80) (a c : ByteArray) (ha : a.data.toList = dA.getD h []) (hc : c.data.toList = dB.getD h []) (sa : a.size ≤ 10) (sc : c.size ≤ 10) :
    ∃ er ns, exprM 900 (repB a k ++ ⟨#[49]⟩ ++ repB c k) = some (er, ns) ∧ (64 < k → er = 6 ∧ ns = []) ∧ (¬ 64 < k → er = 0 ∧ treeP ns = true ∧ (∀ n ∈ ns, Easy n ∧ n.text.size ≤ 100000 ∧ n.kids.length ≤ 100000) ∧ ns.length ≤ 100000) := by
  have h1 := repB_size a sa k
  have h2 := repB_size c sc k
  have hsz : (repB a k ++ ⟨#[49]⟩ ++ repB c k).size ≤ 6000 := by
    rw [ByteArray.size_append, ByteArray.size_append]
    have : (⟨#[49]⟩ : ByteArray).size = 1 := rfl
    omega
  have hl : (repB a k ++ ⟨#[49]⟩ ++ repB c k).data.toList = deepL h k := by
    unfold deepL
    rw [← ha, ← hc, ← repB_list, ← repB_list]
    simp
  rw [exprM_fast 900 hsz, hl]
  have hd := deepAll h k hh hk
  unfold deepOk at hd
  split at hd
  · rename_i e ns hx
    refine ⟨e, ns, hx, fun h64 => ?_, fun h64 => ?_⟩
    · rw [if_pos h64] at hd
      simp only [Bool.and_eq_true, beq_iff_eq, List.isEmpty_iff] at hd
      exact hd
    · rw [if_neg h64] at hd
      simp only [Bool.and_eq_true, beq_iff_eq, decide_eq_true_eq, List.all_eq_true] at hd
      obtain ⟨⟨⟨h3, h4⟩, h5⟩, h6⟩ := hd
      refine ⟨h3, h4, fun n hn => ?_, h6⟩
      have := h5 n hn
      unfold easyB at this
      simp only [Bool.and_eq_true, bne_iff_ne, decide_eq_true_eq, List.isEmpty_iff] at this
      exact ⟨⟨this.1.1.1, this.1.1.2⟩, this.1.2, this.2⟩
  · simp at hd
theorem psel2 (ss : List ByteArray) (i : Nat) (hi : i < ss.length) : ∃ x, x = ss.getD i ⟨#[]⟩ ∧ (∀ h : i < (ss.map Value.string).length, (ss.map Value.string)[i]'h = .string x) ∧ ∀ W : World, (W.alloc (.cells (ss.map Value.string).toArray 9)).cell? ⟨W.heap.size, i, none⟩ = some (.string x) := by
  refine ⟨ss[i], by rw [List.getD_eq_getElem?_getD, List.getElem?_eq_getElem hi]; rfl, fun h => List.getElem_map _, fun W => ?_⟩
  have h := news_new W (ss.map Value.string).toArray 9 i (.string ss[i]) (by simp [hi])
  have hadd : (⟨W.heap.size, 0, none⟩ : Addr).add i = ⟨W.heap.size, i, none⟩ := by unfold Addr.add; split <;> simp_all
  rw [← hadd]; exact h
theorem bA_ok : ∀ h, h < 6 → (bA.getD h ⟨#[]⟩).data.toList = dA.getD h [] ∧ (bA.getD h ⟨#[]⟩).size ≤ 10 := by
  intro h hh
  match h, hh with
  | 0, _ => exact ⟨rfl, by decide⟩
  | 1, _ => exact ⟨rfl, by decide⟩
  | 2, _ => exact ⟨rfl, by decide⟩
  | 3, _ => exact ⟨rfl, by decide⟩
  | 4, _ => exact ⟨rfl, by decide⟩
  | 5, _ => exact ⟨rfl, by decide⟩
theorem bB_ok : ∀ h, h < 6 → (bB.getD h ⟨#[]⟩).data.toList = dB.getD h [] ∧ (bB.getD h ⟨#[]⟩).size ≤ 10 := by
  intro h hh
  match h, hh with
  | 0, _ => exact ⟨rfl, by decide⟩
  | 1, _ => exact ⟨rfl, by decide⟩
  | 2, _ => exact ⟨rfl, by decide⟩
  | 3, _ => exact ⟨rfl, by decide⟩
  | 4, _ => exact ⟨rfl, by decide⟩
  | 5, _ => exact ⟨rfl, by decide⟩
section
variable (w : World)
set_option maxHeartbeats 4000000 in
set_option maxRecDepth 20000 in
theorem law_deep (n h : Nat) (hn : n < 256) (hh : h < 256) (hv : ErrVar w) : Calls Tryz.prog 6 #[.int .u8 n, .int .u8 h] w (Made (.bool true) w) := by
  have V := Lib.hid hv
  clear hv
  obtain ⟨a, ha, la, fa⟩ := psel2 bA (h % 6) (by show h % 6 < 6; omega)
  obtain ⟨c, hc, lc, fc⟩ := psel2 bB (h % 6) (by show h % 6 < 6; omega)
  obtain ⟨a1, sa⟩ := bA_ok (h % 6) (by omega)
  obtain ⟨c1, sc⟩ := bB_ok (h % 6) (by omega)
  rw [← ha] at a1 sa
  rw [← hc] at c1 sc
  obtain ⟨er, ns, hx, hgt, hle⟩ := deep_text (h % 6) (n % 80) (by omega) (by omega) a c a1 c1 sa sc
  have X := Lib.hid hx
  have GT := Lib.hid hgt
  have LE := Lib.hid hle
  have SA := Lib.hid (repB_size a sa)
  have SC := Lib.hid (repB_size c sc)
  have mh : h % 6 < 6 := by omega
  have fa : ∀ W : World, (W.alloc (.cells #[.string ⟨#[40]⟩, .string ⟨#[91]⟩, .string ⟨#[102, 40]⟩, .string ⟨#[45]⟩, .string ⟨#[33]⟩, .string ⟨#[116, 114, 117, 101, 32, 63, 32]⟩] 9)).cell? ⟨W.heap.size, h % 6, none⟩ = some (.string a) := fa
  have fc : ∀ W : World, (W.alloc (.cells #[.string ⟨#[41]⟩, .string ⟨#[93]⟩, .string ⟨#[41]⟩, .string ⟨#[]⟩, .string ⟨#[]⟩, .string ⟨#[32, 58, 32, 48]⟩] 9)).cell? ⟨W.heap.size, h % 6, none⟩ = some (.string c) := fc
  have f1 := fa w.drew
  have f2 := fa (w.drew.alloc (.cells #[.string ⟨#[41]⟩, .string ⟨#[93]⟩, .string ⟨#[41]⟩, .string ⟨#[]⟩, .string ⟨#[]⟩, .string ⟨#[32, 58, 32, 48]⟩] 9))
  have g1 := fc w.drew
  have g2 := fc (w.drew.alloc (.cells #[.string ⟨#[40]⟩, .string ⟨#[91]⟩, .string ⟨#[102, 40]⟩, .string ⟨#[45]⟩, .string ⟨#[33]⟩, .string ⟨#[116, 114, 117, 101, 32, 63, 32]⟩] 9))
  rw [show (w.drew.alloc (.cells #[.string ⟨#[41]⟩, .string ⟨#[93]⟩, .string ⟨#[41]⟩, .string ⟨#[]⟩, .string ⟨#[]⟩, .string ⟨#[32, 58, 32, 48]⟩] 9)).heap.size = w.heap.size + 1 by simp] at f2
  rw [show (w.drew.alloc (.cells #[.string ⟨#[40]⟩, .string ⟨#[91]⟩, .string ⟨#[102, 40]⟩, .string ⟨#[45]⟩, .string ⟨#[33]⟩, .string ⟨#[116, 114, 117, 101, 32, 63, 32]⟩] 9)).heap.size = w.heap.size + 1 by simp] at g2
  have z1 : (⟨#[49]⟩ : ByteArray).size = 1 := rfl
  have LA := Lib.hid la
  have LC := Lib.hid lc
  clear ha hc a1 c1 hx hgt hle fa fc la lc
  go_enter Tryz.func6, Tryz.ntmps6
  go_upto_region 2 with fail
  go_cut [6, 7] (fun s6 s7 wx => s6 = .string a ∧ s7 = .string c ∧ Below w.heap.size w wx)
  case first =>
    clear X GT LE SA SC
    go_region
    all_goals go_wp2
    all_goals go_meet
    all_goals (case rel => exact ⟨by first | rfl | exact LA.out _, by first | rfl | exact LC.out _, by first | exact ((below_drew' (Below.refl _ _)).alloc (Nat.le_refl _) _).alloc (by simp) _ | exact ((below_drew' ((Below.refl _ w).alloc (Nat.le_refl _) _)).alloc (by simp) _) | trace_state⟩)
  case rest =>
    obtain ⟨rfl, rfl, hb1⟩ := hcut
    have B1 := Lib.hid hb1
    clear hb1 f1 f2 g1 g2
    have k0 : n % 80 < 80 := by omega
    have hk : (n : Int) % 80 = ((n % 80 : Nat) : Int) := by omega
    generalize hK : n % 80 = k at *
    have KK := Lib.hid hK
    clear hK LA LC
    rw [hk]
    clear hk
    go_wp2_with fail
    go_loop [8, 9, 10] (fun vs vt vi => ∃ j : Nat, vi = .int .i64 j ∧ j ≤ k ∧ vs = .string (repB a j) ∧ vt = .string (repB c j)) (fun _ _ vi => k - (intOf vi).toNat)
    case atStart => exact ⟨0, rfl, Nat.zero_le _, rfl, rfl⟩
    case round =>
      obtain ⟨j, rfl, hj, rfl, rfl⟩ := hrel
      have s1 := SA.out j
      have s2 := SC.out j
      by_cases hjk : j < k
      · have R1 := Lib.hid (show repB a (j + 1) = repB a j ++ a from rfl)
        have R2 := Lib.hid (show repB c (j + 1) = repB c j ++ c from rfl)
        go_wp2_with fail
        go_round
        case rel => exact ⟨j + 1, by go_num, hjk, by rw [R1.out], by rw [R2.out]⟩
        case measure => simp [intOf]; omega
      · have hjk0 : j = k := by omega
        subst hjk0
        clear hj hjk
        have SZ := Lib.hid (show (repB a j ++ ⟨#[49]⟩ ++ repB c j).size ≤ maxLen by rw [ByteArray.size_append, ByteArray.size_append]; unfold maxLen; omega)
        go_wp2_with fail
        refine (pexpr _ _ 900 er ns SZ.out (V.out.below B1.out V.out.lt) X.out).mono ?_
        rintro e w2 ⟨v, rfl, hb2, hn2⟩
        have B2 := Lib.hid (B1.out.trans (hb2.mono B1.out.size))
        have N2 := Lib.hid hn2
        clear hb2
        by_cases h64 : 64 < j
        · obtain ⟨rfl, rfl⟩ := GT.out h64
          obtain ⟨ao, cap, rfl, -⟩ := hn2.at
          go_wp2_with fail
          refine (num_pany _ 6 (by omega) (by omega)).mono ?_
          rintro e w3 ⟨rfl, rfl⟩
          go_wp2_with fail
          refine (pawake _ (V.out.below B2.out V.out.lt)).mono ?_
          rintro e w4 ⟨rfl, hb4⟩
          have B4 := Lib.hid (B2.out.trans (hb4.mono B2.out.size))
          clear hb4
          go_wp2_with fail
          go_ret
          exact ⟨rfl, B4.out⟩
        · obtain ⟨rfl, ht, he, hl⟩ := LE.out h64
          have TT := Lib.hid (ptreeT _ v ns N2.out he hl (V.out.below B2.out V.out.lt))
          obtain ⟨ao, cap, rfl, -⟩ := hn2.at
          have HTP := Lib.hid ht
          clear ht he hl hn2
          go_wp2_with fail
          refine (num_pany _ 0 (by omega) (by omega)).mono ?_
          rintro e w3 ⟨rfl, rfl⟩
          go_wp2_with fail
          refine TT.out.mono ?_
          rw [HTP.out]
          rintro e w4 ⟨rfl, hb4⟩
          have B4 := Lib.hid (B2.out.trans (hb4.mono B2.out.size))
          clear hb4
          go_wp2_with fail
          refine (pawake _ (V.out.below B4.out V.out.lt)).mono ?_
          rintro e w5 ⟨rfl, hb5⟩
          have B5 := Lib.hid (B4.out.trans (hb5.mono B4.out.size))
          clear hb5
          go_wp2_with fail
          go_ret
          exact ⟨rfl, B5.out⟩
end
end Go.Proofs.YtphgafidlaombaaGreatDoor
