/- WantCircle: parents in a circle are refused, in a row each is one deeper, where package want answers as the document says. -/
import Derived.Test.YtmiadhcmhnjmfaaWnI
namespace Go.Proofs.Ytmiadhcmhnjmfaa
open Go.RowKit
set_option linter.unusedVariables false
set_option linter.unusedSimpArgs false
def lastC (closed unknown : Bool) : ByteArray := if unknown then kNone else if closed then kN0 else ⟨#[]⟩
def elC (k : Nat) (last : ByteArray) (i : Nat) : W5 := ⟨tn i, if i + 1 = k then last else tn (i + 1), ⟨k, 0, 0⟩⟩
theorem circ_get {k i : Nat} {last : ByteArray} (h : i < k) : (circW k last)[i]? = some (elC k last i) := by
  unfold circW; rw [List.getElem?_map, List.getElem?_range h]; rfl
theorem circ_len (k : Nat) (last : ByteArray) : (circW k last).length = k := by simp [circW]
theorem circ_take {k i : Nat} {last : ByteArray} (h : i < k) : (circW k last).take (i + 1) = (circW k last).take i ++ [elC k last i] := by
  rw [List.take_add_one, circ_get h]; rfl
theorem tn_size : ∀ i : Nat, (tn i).size ≤ 3 := by
  intro i
  by_cases h : i < 22
  · have hh : (List.range 22).all (fun i : Nat => decide ((tn i).size ≤ 3)) = true := by kernel_rfl
    have := List.all_eq_true.1 hh i (List.mem_range.2 h)
    simpa using this
  · have : tn i = ⟨#[]⟩ := by
      unfold tn
      rw [List.getD_eq_getElem?_getD, List.getElem?_eq_none (by show tnL.length ≤ i; have : tnL.length = 22 := rfl; omega)]
      rfl
    rw [this]; decide
theorem last_size (c u : Bool) : (lastC c u).size ≤ 4 := by cases c <;> cases u <;> decide
theorem circ_size (k : Nat) (c u : Bool) : ∀ x ∈ circW k (lastC c u), x.name.size ≤ 1000000 ∧ x.parent.size ≤ 1000000 := by
  intro x hx
  unfold circW at hx
  obtain ⟨i, -, rfl⟩ := List.mem_map.1 hx
  have h1 := tn_size i
  have h2 := tn_size (i + 1)
  have h3 := last_size c u
  dsimp only
  split <;> omega
theorem chk_at {k : Nat} (h : 2 ≤ k ∧ k < 22) : checkL (circW k kNone) = 2 ∧ checkL (circW k kN0) = 10 ∧ checkL (circW k ⟨#[]⟩) = 0 ∧ (∀ i, i < k → depthL (circW k ⟨#[]⟩) (tn i) = (k : Int) - (i : Int)) ∧ depthL (circW k ⟨#[]⟩) kNone = 0 := by
  have := List.all_eq_true.1 chk_all (k - 2) (List.mem_range.2 (by omega))
  rw [show k - 2 + 2 = k by omega] at this
  unfold chkC at this
  simp only [Bool.and_eq_true, decide_eq_true_eq, List.all_eq_true, List.mem_range] at this
  obtain ⟨⟨⟨⟨h1, h2⟩, h3⟩, h4⟩, h5⟩ := this
  exact ⟨h1, h2, h3, h4, h5⟩
section
variable (w : World)
set_option maxHeartbeats 8000000 in
set_option maxRecDepth 100000 in
theorem law_wantcircle (CK : CkP) (DP : DpP) (TP : TpP) (n : Nat) (hn : n < 256) (closed unknown : Bool) :
    Calls Try.prog 6 #[.int .u8 n, .bool closed, .bool unknown] w (Made (.bool true) w) := by
  obtain ⟨i0, hi0, hz0, hz1, hz2⟩ := info_partsT info_want
  have AW := Lib.hid (fun W => law11_awake W CK DP TP)
  obtain ⟨k, hk⟩ : ∃ k : Nat, k = 2 + n % 20 := ⟨_, rfl⟩
  have k1 : 2 ≤ k ∧ k < 22 := by omega
  have hkk : (2 : Int) + (n : Int) % 20 = (k : Int) := by omega
  have HKK := Lib.hid hkk
  have wn : IntKind.i64.wrap (n : Int) = (n : Int) := by rw [IntKind.wrap_i64]; omega
  have HK1 := Lib.hid k1
  have CKc := Lib.hid CK
  have DPc := Lib.hid DP
  clear hk hkk k1 CK DP TP
  go_enter Try.func6, Try.ntmps6
  go_wp2_with fail
  rw [HKK.out]
  clear hn wn
  go_loopg [8, 9] k (fun m lv iv wr => ∃ i : Nat, iv = .int .i64 i ∧ k - i ≤ m ∧ i ≤ k ∧ Below w.heap.size w wr ∧ wr.ownsRow w.heap.size 39 5 lv i (w5s ((circW k (lastC closed unknown)).take i)))
  case atStart => exact ⟨0, rfl, Nat.le_refl _, Nat.zero_le _, Below.refl _ _, by rw [List.take_zero]; exact own_none _ _ _ _⟩
  case round =>
    obtain ⟨i, rfl, hm, hi, hb, hown⟩ := hrel
    have HM := Lib.hid hm
    have BR := Lib.hid hb
    have OW := Lib.hid hown
    clear hm hb hown
    by_cases hlt : i < k
    · have hk22 : k < 22 := HK1.out.2
      have TI := Lib.hid (tn_eq i (by omega))
      have TJ := Lib.hid (tn_eq (i + 1) (by omega))
      have G1 := Lib.hid (fun W => drdigs W (i : Int) (by omega))
      have G2 := Lib.hid (show ∀ W, Calls Try.prog 19 #[.int .i64 ((i : Int) + 1)] W (Made (.string ⟨(Lib.itoa ((i + 1 : Nat) : Int)).toArray⟩) W) from fun W => drdigs W ((i + 1 : Nat) : Int) (by omega))
      have E1 := Lib.hid (show (⟨(Lib.itoa (i : Int)).toArray⟩ : ByteArray) = itoaB (i : Int) from rfl)
      have E2 := Lib.hid (show (⟨(Lib.itoa ((i + 1 : Nat) : Int)).toArray⟩ : ByteArray) = itoaB ((i + 1 : Nat) : Int) from rfl)
      rw [E1.out] at G1
      rw [E2.out] at G2
      have s1 : (itoaB (i : Int)).size ≤ 21 := itoaB_size _ (by omega)
      have s2 : (itoaB ((i + 1 : Nat) : Int)).size ≤ 21 := itoaB_size _ (by omega)
      have CT := Lib.hid (circ_take (last := lastC closed unknown) hlt)
      clear E1 E2
      generalize itoaB ((i + 1 : Nat) : Int) = sj at *
      generalize itoaB (i : Int) = si at *
      have n1 : ¬ 9223372036854775807 < 1 + si.size := by omega
      have n2 : ¬ 9223372036854775807 < 1 + sj.size := by omega
      go_wp2_with fail
      with_reducible refine (G1.out _).mono ?_
      rintro e w1 ⟨rfl, hb1⟩
      have B1 := Lib.hid (below_tr BR.out hb1)
      have O1 := Lib.hid (own_below OW.out hb1)
      clear hb1
      go_wp2_with fail
      with_reducible refine (G2.out _).mono ?_
      rintro e w2 ⟨rfl, hb2⟩
      have B2 := Lib.hid (below_tr B1.out hb2)
      have O2 := Lib.hid (own_below O1.out hb2)
      clear hb2 O1 OW
      by_cases he : i + 1 = k
      · have e1 : ((i : Int) == (k : Int) - 1) = true := by simp; omega
        have HE := Lib.hid he
        clear he
        cases closed
        · cases unknown
          · go_upto_region 13 with fail
            rw [TI.out]
            have EL := Lib.hid (show elC k (lastC false false) i = ⟨tn i, ⟨#[]⟩, ⟨k, 0, 0⟩⟩ from by unfold elC lastC kNone kN0; rw [if_pos HE.out]; rfl)
            have BX := heap_alloc_new w2 (.cells #[.string (tn i), .string ⟨#[]⟩, .int .i64 (k : Int), .int .i64 0, .int .i64 0] 39)
            have B3 := Lib.hid (below_al B2.out (.cells #[.string (tn i), .string ⟨#[]⟩, .int .i64 (k : Int), .int .i64 0, .int .i64 0] 39))
            have O3 := Lib.hid (O2.out.alloc (.cells #[.string (tn i), .string ⟨#[]⟩, .int .i64 (k : Int), .int .i64 0, .int .i64 0] 39))
            generalize w2.alloc (.cells #[.string (tn i), .string ⟨#[]⟩, .int .i64 (k : Int), .int .i64 0, .int .i64 0] 39) = w3 at *
            have c0 := cell_of_row _ _ 0 _ _ _ BX
            have c1 := cell_of_row _ _ 1 _ _ _ BX
            have c2 := cell_of_row _ _ 2 _ _ _ BX
            have c3 := cell_of_row _ _ 3 _ _ _ BX
            have c4 := cell_of_row _ _ 4 _ _ _ BX
            simp at c0 c1 c2 c3 c4
            have NW := Lib.hid (news_new w3 #[.string (tn i), .string ⟨#[]⟩, .int .i64 (k : Int), .int .i64 0, .int .i64 0] 39)
            have O3a := Lib.hid (O3.out.alloc (.cells #[.string (tn i), .string ⟨#[]⟩, .int .i64 (k : Int), .int .i64 0, .int .i64 0] 39))
            have B3z := Lib.hid B3.out.size
            clear BX
            go_wp2_with (at_builtin; refine wpList_append_any _ rfl _ _ 22 rfl w.heap.size 39 i0 _ 5 56 Try.underlying22 hi0 hz0 hz1 hz2 rfl (by decide) u8 i _ rfl O3a.out (some ⟨w3.heap.size, 0, none⟩) 1 1 [.string (tn i), .string ⟨#[]⟩, .int .i64 (k : Int), .int .i64 0, .int .i64 0] rfl (by rfl) (fun h => by cases h) (fun ad had j u hj => by cases had; exact NW.out j u hj) (by intro u hu; simp only [List.mem_cons, List.not_mem_nil, or_false] at hu; rcases hu with rfl | rfl | rfl | rfl | rfl <;> rfl) (by unfold maxLen; omega) (by omega) (by have := B3z.out; simp; omega) ?_)
            intro v4 w4 hown4 hg4
            have B4 := Lib.hid (below_grown' (below_al B3.out (.cells #[.string (tn i), .string ⟨#[]⟩, .int .i64 (k : Int), .int .i64 0, .int .i64 0] 39)) hg4 (fun q hq => (World.ownsRow.lt O3a.out q hq).1))
            have O4 := Lib.hid (show w4.ownsRow w.heap.size 39 5 v4 (i + 1) (w5s ((circW k (lastC false false)).take (i + 1))) by
              rw [CT.out, w5s_app, EL.out]
              exact hown4)
            clear hown4 hg4 c0 c1 c2 c3 c4 O3a NW
            go_wp2_with fail
            go_roundg (k - (i + 1))
            case rel => exact ⟨i + 1, by go_num, Nat.le_refl _, by omega, B4.out, O4.out⟩
            case measure => have := HM.out; omega
          · go_upto_region 13 with fail
            rw [TI.out]
            have EL := Lib.hid (show elC k (lastC false true) i = ⟨tn i, ⟨#[110, 111, 110, 101]⟩, ⟨k, 0, 0⟩⟩ from by unfold elC lastC kNone kN0; rw [if_pos HE.out]; rfl)
            have BX := heap_alloc_new w2 (.cells #[.string (tn i), .string ⟨#[110, 111, 110, 101]⟩, .int .i64 (k : Int), .int .i64 0, .int .i64 0] 39)
            have B3 := Lib.hid (below_al B2.out (.cells #[.string (tn i), .string ⟨#[110, 111, 110, 101]⟩, .int .i64 (k : Int), .int .i64 0, .int .i64 0] 39))
            have O3 := Lib.hid (O2.out.alloc (.cells #[.string (tn i), .string ⟨#[110, 111, 110, 101]⟩, .int .i64 (k : Int), .int .i64 0, .int .i64 0] 39))
            generalize w2.alloc (.cells #[.string (tn i), .string ⟨#[110, 111, 110, 101]⟩, .int .i64 (k : Int), .int .i64 0, .int .i64 0] 39) = w3 at *
            have c0 := cell_of_row _ _ 0 _ _ _ BX
            have c1 := cell_of_row _ _ 1 _ _ _ BX
            have c2 := cell_of_row _ _ 2 _ _ _ BX
            have c3 := cell_of_row _ _ 3 _ _ _ BX
            have c4 := cell_of_row _ _ 4 _ _ _ BX
            simp at c0 c1 c2 c3 c4
            have NW := Lib.hid (news_new w3 #[.string (tn i), .string ⟨#[110, 111, 110, 101]⟩, .int .i64 (k : Int), .int .i64 0, .int .i64 0] 39)
            have O3a := Lib.hid (O3.out.alloc (.cells #[.string (tn i), .string ⟨#[110, 111, 110, 101]⟩, .int .i64 (k : Int), .int .i64 0, .int .i64 0] 39))
            have B3z := Lib.hid B3.out.size
            clear BX
            go_wp2_with (at_builtin; refine wpList_append_any _ rfl _ _ 22 rfl w.heap.size 39 i0 _ 5 56 Try.underlying22 hi0 hz0 hz1 hz2 rfl (by decide) u8 i _ rfl O3a.out (some ⟨w3.heap.size, 0, none⟩) 1 1 [.string (tn i), .string ⟨#[110, 111, 110, 101]⟩, .int .i64 (k : Int), .int .i64 0, .int .i64 0] rfl (by rfl) (fun h => by cases h) (fun ad had j u hj => by cases had; exact NW.out j u hj) (by intro u hu; simp only [List.mem_cons, List.not_mem_nil, or_false] at hu; rcases hu with rfl | rfl | rfl | rfl | rfl <;> rfl) (by unfold maxLen; omega) (by omega) (by have := B3z.out; simp; omega) ?_)
            intro v4 w4 hown4 hg4
            have B4 := Lib.hid (below_grown' (below_al B3.out (.cells #[.string (tn i), .string ⟨#[110, 111, 110, 101]⟩, .int .i64 (k : Int), .int .i64 0, .int .i64 0] 39)) hg4 (fun q hq => (World.ownsRow.lt O3a.out q hq).1))
            have O4 := Lib.hid (show w4.ownsRow w.heap.size 39 5 v4 (i + 1) (w5s ((circW k (lastC false true)).take (i + 1))) by
              rw [CT.out, w5s_app, EL.out]
              exact hown4)
            clear hown4 hg4 c0 c1 c2 c3 c4 O3a NW
            go_wp2_with fail
            go_roundg (k - (i + 1))
            case rel => exact ⟨i + 1, by go_num, Nat.le_refl _, by omega, B4.out, O4.out⟩
            case measure => have := HM.out; omega
        · cases unknown
          · go_upto_region 13 with fail
            rw [TI.out]
            have EL := Lib.hid (show elC k (lastC true false) i = ⟨tn i, ⟨#[110, 48]⟩, ⟨k, 0, 0⟩⟩ from by unfold elC lastC kNone kN0; rw [if_pos HE.out]; rfl)
            have BX := heap_alloc_new w2 (.cells #[.string (tn i), .string ⟨#[110, 48]⟩, .int .i64 (k : Int), .int .i64 0, .int .i64 0] 39)
            have B3 := Lib.hid (below_al B2.out (.cells #[.string (tn i), .string ⟨#[110, 48]⟩, .int .i64 (k : Int), .int .i64 0, .int .i64 0] 39))
            have O3 := Lib.hid (O2.out.alloc (.cells #[.string (tn i), .string ⟨#[110, 48]⟩, .int .i64 (k : Int), .int .i64 0, .int .i64 0] 39))
            generalize w2.alloc (.cells #[.string (tn i), .string ⟨#[110, 48]⟩, .int .i64 (k : Int), .int .i64 0, .int .i64 0] 39) = w3 at *
            have c0 := cell_of_row _ _ 0 _ _ _ BX
            have c1 := cell_of_row _ _ 1 _ _ _ BX
            have c2 := cell_of_row _ _ 2 _ _ _ BX
            have c3 := cell_of_row _ _ 3 _ _ _ BX
            have c4 := cell_of_row _ _ 4 _ _ _ BX
            simp at c0 c1 c2 c3 c4
            have NW := Lib.hid (news_new w3 #[.string (tn i), .string ⟨#[110, 48]⟩, .int .i64 (k : Int), .int .i64 0, .int .i64 0] 39)
            have O3a := Lib.hid (O3.out.alloc (.cells #[.string (tn i), .string ⟨#[110, 48]⟩, .int .i64 (k : Int), .int .i64 0, .int .i64 0] 39))
            have B3z := Lib.hid B3.out.size
            clear BX
            go_wp2_with (at_builtin; refine wpList_append_any _ rfl _ _ 22 rfl w.heap.size 39 i0 _ 5 56 Try.underlying22 hi0 hz0 hz1 hz2 rfl (by decide) u8 i _ rfl O3a.out (some ⟨w3.heap.size, 0, none⟩) 1 1 [.string (tn i), .string ⟨#[110, 48]⟩, .int .i64 (k : Int), .int .i64 0, .int .i64 0] rfl (by rfl) (fun h => by cases h) (fun ad had j u hj => by cases had; exact NW.out j u hj) (by intro u hu; simp only [List.mem_cons, List.not_mem_nil, or_false] at hu; rcases hu with rfl | rfl | rfl | rfl | rfl <;> rfl) (by unfold maxLen; omega) (by omega) (by have := B3z.out; simp; omega) ?_)
            intro v4 w4 hown4 hg4
            have B4 := Lib.hid (below_grown' (below_al B3.out (.cells #[.string (tn i), .string ⟨#[110, 48]⟩, .int .i64 (k : Int), .int .i64 0, .int .i64 0] 39)) hg4 (fun q hq => (World.ownsRow.lt O3a.out q hq).1))
            have O4 := Lib.hid (show w4.ownsRow w.heap.size 39 5 v4 (i + 1) (w5s ((circW k (lastC true false)).take (i + 1))) by
              rw [CT.out, w5s_app, EL.out]
              exact hown4)
            clear hown4 hg4 c0 c1 c2 c3 c4 O3a NW
            go_wp2_with fail
            go_roundg (k - (i + 1))
            case rel => exact ⟨i + 1, by go_num, Nat.le_refl _, by omega, B4.out, O4.out⟩
            case measure => have := HM.out; omega
          · go_upto_region 13 with fail
            rw [TI.out]
            have EL := Lib.hid (show elC k (lastC true true) i = ⟨tn i, ⟨#[110, 111, 110, 101]⟩, ⟨k, 0, 0⟩⟩ from by unfold elC lastC kNone kN0; rw [if_pos HE.out]; rfl)
            have BX := heap_alloc_new w2 (.cells #[.string (tn i), .string ⟨#[110, 111, 110, 101]⟩, .int .i64 (k : Int), .int .i64 0, .int .i64 0] 39)
            have B3 := Lib.hid (below_al B2.out (.cells #[.string (tn i), .string ⟨#[110, 111, 110, 101]⟩, .int .i64 (k : Int), .int .i64 0, .int .i64 0] 39))
            have O3 := Lib.hid (O2.out.alloc (.cells #[.string (tn i), .string ⟨#[110, 111, 110, 101]⟩, .int .i64 (k : Int), .int .i64 0, .int .i64 0] 39))
            generalize w2.alloc (.cells #[.string (tn i), .string ⟨#[110, 111, 110, 101]⟩, .int .i64 (k : Int), .int .i64 0, .int .i64 0] 39) = w3 at *
            have c0 := cell_of_row _ _ 0 _ _ _ BX
            have c1 := cell_of_row _ _ 1 _ _ _ BX
            have c2 := cell_of_row _ _ 2 _ _ _ BX
            have c3 := cell_of_row _ _ 3 _ _ _ BX
            have c4 := cell_of_row _ _ 4 _ _ _ BX
            simp at c0 c1 c2 c3 c4
            have NW := Lib.hid (news_new w3 #[.string (tn i), .string ⟨#[110, 111, 110, 101]⟩, .int .i64 (k : Int), .int .i64 0, .int .i64 0] 39)
            have O3a := Lib.hid (O3.out.alloc (.cells #[.string (tn i), .string ⟨#[110, 111, 110, 101]⟩, .int .i64 (k : Int), .int .i64 0, .int .i64 0] 39))
            have B3z := Lib.hid B3.out.size
            clear BX
            go_wp2_with (at_builtin; refine wpList_append_any _ rfl _ _ 22 rfl w.heap.size 39 i0 _ 5 56 Try.underlying22 hi0 hz0 hz1 hz2 rfl (by decide) u8 i _ rfl O3a.out (some ⟨w3.heap.size, 0, none⟩) 1 1 [.string (tn i), .string ⟨#[110, 111, 110, 101]⟩, .int .i64 (k : Int), .int .i64 0, .int .i64 0] rfl (by rfl) (fun h => by cases h) (fun ad had j u hj => by cases had; exact NW.out j u hj) (by intro u hu; simp only [List.mem_cons, List.not_mem_nil, or_false] at hu; rcases hu with rfl | rfl | rfl | rfl | rfl <;> rfl) (by unfold maxLen; omega) (by omega) (by have := B3z.out; simp; omega) ?_)
            intro v4 w4 hown4 hg4
            have B4 := Lib.hid (below_grown' (below_al B3.out (.cells #[.string (tn i), .string ⟨#[110, 111, 110, 101]⟩, .int .i64 (k : Int), .int .i64 0, .int .i64 0] 39)) hg4 (fun q hq => (World.ownsRow.lt O3a.out q hq).1))
            have O4 := Lib.hid (show w4.ownsRow w.heap.size 39 5 v4 (i + 1) (w5s ((circW k (lastC true true)).take (i + 1))) by
              rw [CT.out, w5s_app, EL.out]
              exact hown4)
            clear hown4 hg4 c0 c1 c2 c3 c4 O3a NW
            go_wp2_with fail
            go_roundg (k - (i + 1))
            case rel => exact ⟨i + 1, by go_num, Nat.le_refl _, by omega, B4.out, O4.out⟩
            case measure => have := HM.out; omega
      · have e1 : ((i : Int) == (k : Int) - 1) = false := by simp; omega
        go_upto_region 13 with fail
        rw [TI.out]
        rw [TJ.out]
        have EL := Lib.hid (show elC k (lastC closed unknown) i = ⟨tn i, (tn (i + 1)), ⟨k, 0, 0⟩⟩ from by unfold elC; rw [if_neg he])
        have BX := heap_alloc_new w2 (.cells #[.string (tn i), .string (tn (i + 1)), .int .i64 (k : Int), .int .i64 0, .int .i64 0] 39)
        have B3 := Lib.hid (below_al B2.out (.cells #[.string (tn i), .string (tn (i + 1)), .int .i64 (k : Int), .int .i64 0, .int .i64 0] 39))
        have O3 := Lib.hid (O2.out.alloc (.cells #[.string (tn i), .string (tn (i + 1)), .int .i64 (k : Int), .int .i64 0, .int .i64 0] 39))
        generalize w2.alloc (.cells #[.string (tn i), .string (tn (i + 1)), .int .i64 (k : Int), .int .i64 0, .int .i64 0] 39) = w3 at *
        have c0 := cell_of_row _ _ 0 _ _ _ BX
        have c1 := cell_of_row _ _ 1 _ _ _ BX
        have c2 := cell_of_row _ _ 2 _ _ _ BX
        have c3 := cell_of_row _ _ 3 _ _ _ BX
        have c4 := cell_of_row _ _ 4 _ _ _ BX
        simp at c0 c1 c2 c3 c4
        have NW := Lib.hid (news_new w3 #[.string (tn i), .string (tn (i + 1)), .int .i64 (k : Int), .int .i64 0, .int .i64 0] 39)
        have O3a := Lib.hid (O3.out.alloc (.cells #[.string (tn i), .string (tn (i + 1)), .int .i64 (k : Int), .int .i64 0, .int .i64 0] 39))
        have B3z := Lib.hid B3.out.size
        clear BX
        go_wp2_with (at_builtin; refine wpList_append_any _ rfl _ _ 22 rfl w.heap.size 39 i0 _ 5 56 Try.underlying22 hi0 hz0 hz1 hz2 rfl (by decide) u8 i _ rfl O3a.out (some ⟨w3.heap.size, 0, none⟩) 1 1 [.string (tn i), .string (tn (i + 1)), .int .i64 (k : Int), .int .i64 0, .int .i64 0] rfl (by rfl) (fun h => by cases h) (fun ad had j u hj => by cases had; exact NW.out j u hj) (by intro u hu; simp only [List.mem_cons, List.not_mem_nil, or_false] at hu; rcases hu with rfl | rfl | rfl | rfl | rfl <;> rfl) (by unfold maxLen; omega) (by omega) (by have := B3z.out; simp; omega) ?_)
        intro v4 w4 hown4 hg4
        have B4 := Lib.hid (below_grown' (below_al B3.out (.cells #[.string (tn i), .string (tn (i + 1)), .int .i64 (k : Int), .int .i64 0, .int .i64 0] 39)) hg4 (fun q hq => (World.ownsRow.lt O3a.out q hq).1))
        have O4 := Lib.hid (show w4.ownsRow w.heap.size 39 5 v4 (i + 1) (w5s ((circW k (lastC closed unknown)).take (i + 1))) by
          rw [CT.out, w5s_app, EL.out]
          exact hown4)
        clear hown4 hg4 c0 c1 c2 c3 c4 O3a NW
        go_wp2_with fail
        go_roundg (k - (i + 1))
        case rel => exact ⟨i + 1, by go_num, Nat.le_refl _, by omega, B4.out, O4.out⟩
        case measure => have := HM.out; omega
    · obtain rfl : i = k := by omega
      have WR := Lib.hid (show WRow wr (circW i (lastC closed unknown)) u8 by
        have h9 := OW.out
        rw [List.take_of_length_le (by rw [circ_len]; exact Nat.le_refl _)] at h9
        have h8 : (circW i (lastC closed unknown)).length = i := circ_len _ _
        exact wrow_of_own (by rw [h8]; exact h9))
      obtain ⟨lo, lc, rfl⟩ := WR.out.shape
      have HL := Lib.hid (circ_len i (lastC closed unknown))
      have SZ := Lib.hid (circ_size i closed unknown)
      obtain ⟨d1, d2, d3, d4, d5⟩ := chk_at HK1.out
      have C1 := Lib.hid (CKc.out wr _ _ WR.out SZ.out (by rw [HL.out]; have := HK1.out; omega))
      cases unknown with
      | true =>
        have hc : checkL (circW i (lastC closed true)) = 2 := by cases closed <;> exact d1
        rw [hc] at C1
        clear d1 d2 d3 d4 d5 hc OW
        go_wp2_with fail
        with_reducible refine C1.out.mono ?_
        rintro e w1 ⟨rfl, hb1⟩
        go_wp2_with fail
        with_reducible refine (lnumE _ _).mono ?_
        rintro e w2 ⟨rfl, rfl⟩
        go_wp2_with fail
        with_reducible refine (AW.out _).mono ?_
        rintro e w3 ⟨rfl, hb3⟩
        go_wp2_with fail
        go_ret
        exact ⟨rfl, below_tr (below_tr BR.out hb1) hb3⟩
      | false =>
        cases closed with
        | true =>
          have hc : checkL (circW i (lastC true false)) = 10 := d2
          rw [hc] at C1
          clear d1 d2 d3 d4 d5 hc OW
          go_wp2_with fail
          with_reducible refine C1.out.mono ?_
          rintro e w1 ⟨rfl, hb1⟩
          go_wp2_with fail
          with_reducible refine (lnumE _ _).mono ?_
          rintro e w2 ⟨rfl, rfl⟩
          go_wp2_with fail
          with_reducible refine (AW.out _).mono ?_
          rintro e w3 ⟨rfl, hb3⟩
          go_wp2_with fail
          go_ret
          exact ⟨rfl, below_tr (below_tr BR.out hb1) hb3⟩
        | false =>
          have hc : checkL (circW i (lastC false false)) = 0 := d3
          have FT := Lib.hid (show FitW (circW i (lastC false false)) from .inl hc)
          have D4 := Lib.hid (show ∀ j, j < i → depthL (circW i (lastC false false)) (tn j) = (i : Int) - (j : Int) from d4)
          have D5 := Lib.hid (show depthL (circW i (lastC false false)) ⟨#[110, 111, 110, 101]⟩ = 0 from d5)
          rw [hc] at C1
          clear d1 d2 d3 d4 d5 hc OW
          go_wp2_with fail
          with_reducible refine C1.out.mono ?_
          rintro e w1 ⟨rfl, hb1⟩
          go_wp2_with fail
          with_reducible refine (lnumE _ _).mono ?_
          rintro e w2 ⟨rfl, rfl⟩
          have B1 := Lib.hid (below_tr BR.out hb1)
          have W1 := Lib.hid (WR.out.below hb1)
          clear hb1 C1 WR BR
          go_wp2_with fail
          go_loopg [12] i (fun m jv ws => ∃ j : Nat, jv = .int .i64 j ∧ i - j ≤ m ∧ j ≤ i ∧ Below w1.heap.size w1 ws)
          case atStart => exact ⟨0, rfl, Nat.le_refl _, Nat.zero_le _, Below.refl _ _⟩
          case round =>
            obtain ⟨j, rfl, hm2, hj, hb2⟩ := hrel
            have HM2 := Lib.hid hm2
            have BS := Lib.hid hb2
            have WS := Lib.hid (W1.out.below hb2)
            clear hm2 hb2
            by_cases hjl : j < i
            · obtain ⟨ao2, cap2, e2, -, -, hat2⟩ := WS.out
              simp only [Value.slice.injEq] at e2
              obtain ⟨rfl, -, rfl⟩ := e2
              obtain ⟨g, o, rfl, c0, -⟩ := hat2 j _ (circ_get hjl)
              replace c0 : wr.cell? ⟨g, o + j * 5, none⟩ = some (.string (tn j)) := c0
              have DJ := Lib.hid (show Calls Try.prog 13 #[.slice (some ⟨g, o, none⟩) (circW i (lastC false false)).length lc, .string (tn j)] wr (Made (.int .i64 ((i : Int) - (j : Int))) wr) by
                have := DPc.out wr _ _ (tn j) WS.out SZ.out (by have := tn_size j; omega) FT.out
                rw [D4.out j hjl] at this
                exact this)
              have x1 : (j : Int) < ((circW i (lastC false false)).length : Int) := by rw [HL.out]; omega
              have hi22 : i < 22 := HK1.out.2
              clear hat2
              generalize (circW i (lastC false false)).length = nn at *
              go_wp2_with fail
              with_reducible refine DJ.out.mono ?_
              rintro e w3 ⟨rfl, hb3⟩
              have hb4 := below_tr BS.out hb3
              clear hb3
              go_wp2_with fail
              go_roundg (i - (j + 1))
              case rel => exact ⟨j + 1, by go_num, Nat.le_refl _, hjl, hb4⟩
              case measure => have := HM2.out; omega
            · obtain rfl : j = i := by omega
              have DN := Lib.hid (DPc.out wr _ _ ⟨#[110, 111, 110, 101]⟩ WS.out SZ.out (by decide) FT.out)
              rw [D5.out] at DN
              go_wp2_with fail
              with_reducible refine DN.out.mono ?_
              rintro e w3 ⟨rfl, hb3⟩
              go_wp2_with fail
              with_reducible refine (AW.out _).mono ?_
              rintro e w4 ⟨rfl, hb4⟩
              go_wp2_with fail
              go_ret
              exact ⟨rfl, below_tr (below_tr (below_tr B1.out BS.out) hb3) hb4⟩
end
end Go.Proofs.Ytmiadhcmhnjmfaa
