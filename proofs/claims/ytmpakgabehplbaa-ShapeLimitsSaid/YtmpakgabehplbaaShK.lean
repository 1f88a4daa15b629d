/- The law of shape: so many may there be, and no more. -/
import Derived.Test.YtmpakgabehplbaaShI
namespace Go.Proofs.Ytmpakgabehplbaa
open Go.RowKit
set_option linter.unusedVariables false
set_option linter.unusedSimpArgs false
def nm2 (i : Nat) : ByteArray := ⟨#[UInt8.ofNat (97 + i / 26), UInt8.ofNat (97 + i % 26)]⟩
theorem nm2_inj {i j : Nat} (hi : i < 676) (hj : j < 676) (h : nm2 i = nm2 j) : i = j := by
  have h1 := congrArg (fun b : ByteArray => b.data.toList) h
  simp only [nm2, List.cons.injEq, and_true] at h1
  obtain ⟨a, b⟩ := h1
  have a' := congrArg UInt8.toNat a
  have b' := congrArg UInt8.toNat b
  rw [UInt8.toNat_ofNat', UInt8.toNat_ofNat'] at a' b'
  omega
theorem nm2_ok (i : Nat) : nameB (nm2 i) = true := by
  rw [nameB_size]; rfl
def many : Nat → List I12
  | 0 => []
  | i + 1 => createL (many i) (nm2 i) ⟨#[]⟩ z3
theorem mem_create {l : List I12} {s p : ByteArray} {v : V3} {x : I12} : x ∈ createL l s p v ↔ x = newI s p v ∨ x ∈ l := by
  unfold createL
  rw [mem_ins, List.takeWhile_append_dropWhile]
theorem many_len : ∀ i, (many i).length = i
  | 0 => rfl
  | i + 1 => by rw [many, create_len, many_len i]
theorem many_name : ∀ i, ∀ x ∈ many i, ∃ j, j < i ∧ x.name = nm2 j
  | 0, x, h => by cases h
  | i + 1, x, h => by
    rw [many, mem_create] at h
    rcases h with rfl | h
    · exact ⟨i, Nat.lt_succ_self i, rfl⟩
    · obtain ⟨j, hj, e⟩ := many_name i x h
      exact ⟨j, by omega, e⟩
theorem many_new {i j : Nat} (hi : i ≤ 120) (hj : i ≤ j) (h6 : j < 676) : createE (many i) (nm2 j) ⟨#[]⟩ z3 = if 120 ≤ i then 4 else 0 := by
  have hn : iIdx (many i) (nm2 j) = none := by
    refine look_iff.1 (look_none.2 fun x hx e => ?_)
    obtain ⟨q, hq, e2⟩ := many_name i x hx
    have := nm2_inj (by omega) h6 (e2.symm.trans e)
    omega
  unfold createE
  rw [if_neg (by rw [nm2_ok]; decide), if_neg (by rw [hn]; simp), if_neg (fun h => h.1 rfl), many_len]
theorem many_right : ∀ i, i ≤ 120 → RT (many i)
  | 0, _ => RT.nil
  | i + 1, h => create_ok (many_right i (by omega)) (by rw [many_new (by omega) (Nat.le_refl _) (by omega), if_neg (by omega)])
theorem nm2_zz : nm2 675 = ⟨#[122, 122]⟩ := rfl
theorem two_conv (wr : World) (x y : Int) (c d : UInt8) (hx : x = c.toNat) (hy : y = d.toNat) :
    Sem.run Try.prog (convert 46 9 (.slice (some ⟨wr.heap.size, 0, none⟩) 2 2)) (wr.alloc (.cells #[.int .u8 x, .int .u8 y] 5)) = .ok (.string ⟨#[c, d]⟩) (wr.alloc (.cells #[.int .u8 x, .int .u8 y] 5)) := by
  have h := run_convert_bytes_back (P := Try.prog) (wr.alloc (.cells #[.int .u8 x, .int .u8 y] 5)) 46 9 5 ⟨wr.heap.size, 0, none⟩ 2 [c, d] Try.underlying46 Try.underlying5 Try.underlying9 (by
    intro j hj
    have hj2 : j < 2 := by simpa using hj
    rcases (show j = 0 ∨ j = 1 by omega) with rfl | rfl
    · exact ddig_new wr #[.int .u8 x, .int .u8 y] 5 0 _ (by simp [hx])
    · exact ddig_new wr #[.int .u8 x, .int .u8 y] 5 1 _ (by simp [hy]))
  exact h
section
variable (w : World)
set_option maxHeartbeats 16000000 in
set_option maxRecDepth 100000 in
theorem law_shapemany (CC : CrC) (n : Nat) (hn : n ≤ 255) : Calls Try.prog 9 #[.int .u8 (n : Int)] w (Made (.bool true) w) := by
  have AW := Lib.hid (fun W => law_awake15 W CC)
  have NU := Lib.hid (fun W x => num15 W x)
  have CCC := Lib.hid CC
  clear CC
  obtain ⟨K, hK⟩ : ∃ K : Nat, K = n % 130 + 1 := ⟨_, rfl⟩
  have K1 : (n : Int) % 130 + 1 = (K : Int) := by omega
  have K2 : K ≤ 130 := by omega
  have wn : IntKind.i64.wrap (n : Int) = (n : Int) := by rw [IntKind.wrap_i64]; omega
  obtain ⟨M, hM⟩ : ∃ M : Nat, M = min K 120 := ⟨_, rfl⟩
  have M0 : M ≤ 120 := by omega
  have KM := Lib.hid (show M = min K 120 from hM)
  have M1 : (if (120 : Int) < (K : Int) then (120 : Int) else (K : Int)) = (M : Int) := by split <;> omega
  have M2 : (if (K : Int) ≤ 120 then (K : Int) else 120) = (M : Int) := by split <;> omega
  have M3 : min (K : Int) 120 = (M : Int) := by omega
  have M4 : (if (120 : Int) ≤ (K : Int) then (120 : Int) else (K : Int)) = (M : Int) := by split <;> omega
  have M5 : (if (K : Int) < 120 then (K : Int) else 120) = (M : Int) := by split <;> omega
  have HN := Lib.hid hn
  clear hK hM hn
  go_enter Try.func9, Try.ntmps9
  go_wp2_with fail
  rw [K1] at *
  go_loopg [4, 5] M (fun m lv iv wr => ∃ i : Nat, iv = .int .i64 (i : Int) ∧ M - i ≤ m ∧ i ≤ M ∧ Below w.heap.size w wr ∧ IRow wr (many i) lv)
  case atStart => exact ⟨0, rfl, Nat.le_refl _, Nat.zero_le _, Below.refl _ _, IRow.nil _⟩
  case round =>
    obtain ⟨i, rfl, hm, hi, hb, hr⟩ := hrel
    have HM := Lib.hid hm
    have BR := Lib.hid hb
    have IR := Lib.hid hr
    obtain ⟨ro, rc, rfl⟩ := hr.shape
    clear hm hb hr
    by_cases hlt : i < M
    · have g1 : (i : Int) < (M : Int) := by omega
      have wc1 : IntKind.u8.wrap (97 + (i : Int) / 26) = 97 + (i : Int) / 26 := by rw [IntKind.wrap_u8]; omega
      have wc2 : IntKind.u8.wrap (97 + (i : Int) % 26) = 97 + (i : Int) % 26 := by rw [IntKind.wrap_u8]; omega
      have hcv := two_conv wr (97 + (i : Int) / 26) (97 + (i : Int) % 26) (UInt8.ofNat (97 + i / 26)) (UInt8.ofNat (97 + i % 26)) (by rw [UInt8.toNat_ofNat']; omega) (by rw [UInt8.toNat_ofNat']; omega)
      have RC := Lib.hid (fun W (hW : Below wr.heap.size wr W) => rcreate W (many i) _ (IR.out.below hW) (by rw [many_len]; omega) (nm2 i) ⟨#[]⟩ (by show 2 ≤ 1000000; decide) z3)
      rw [many_new (by omega) (Nat.le_refl _) (by omega), if_neg (by omega)] at RC
      rw [show createL (many i) (nm2 i) ⟨#[]⟩ z3 = many (i + 1) from rfl] at RC
      rw [show (⟨#[UInt8.ofNat (97 + i / 26), UInt8.ofNat (97 + i % 26)]⟩ : ByteArray) = nm2 i from rfl] at hcv
      simp only [GrownI, z3] at RC
      have U8B := Lib.hid (below_al (Below.refl wr.heap.size wr) (.cells #[.int .u8 (97 + (i : Int) / 26), .int .u8 (97 + (i : Int) % 26)] 5))
      generalize nm2 i = s at *
      go_wp2_with fail
      with_reducible refine (RC.out _ U8B.out).mono ?_
      rintro e w6 ⟨r6, rfl, hb, h6⟩
      rw [if_pos rfl] at h6
      have D6 := Lib.hid (below_tr U8B.out hb)
      have X6 := Lib.hid (irow_of_own h6)
      obtain ⟨ro6, rc6, rfl⟩ := X6.out.shape
      have Y6 := Lib.hid (below_al (Below.refl w6.heap.size w6) (.cells #[.slice ro6 (many (i + 1)).length rc6, .int .i64 0] 38))
      have G7 := Lib.hid (show GBlk (w6.alloc (.cells #[.slice ro6 (many (i + 1)).length rc6, .int .i64 0] 38)) w6.heap.size (.slice ro6 (many (i + 1)).length rc6) 0 from GBlk.new w6 _ _)
      have FR := Lib.hid (below_tr BR.out (below_tr D6.out Y6.out))
      have XR := Lib.hid (X6.out.below Y6.out)
      clear hb h6 X6
      go_upto_region 7 with fail
      generalize w6.heap.size = b6 at *
      generalize w6.alloc (.cells #[.slice ro6 (many (i + 1)).length rc6, .int .i64 0] 38) = wc at *
      obtain ⟨g0, g1⟩ := G7.out.cells
      go_wp2_with fail
      go_roundg (M - (i + 1))
      case rel => exact ⟨i + 1, by go_num, Nat.le_refl _, hlt, FR.out, XR.out⟩
      case measure => have := HM.out; omega
    · have g1 : (M : Int) ≤ (i : Int) := by omega
      obtain rfl : i = M := by omega
      have CM := Lib.hid (CCC.out wr (many i) _ ⟨#[122, 122]⟩ ⟨#[]⟩ z3 IR.out (many_right i M0) (by decide) (by decide))
      rw [← nm2_zz, many_new M0 (by omega) (by omega), nm2_zz] at CM
      have LL := Lib.hid (show (createL (many i) (nm2 675) ⟨#[]⟩ z3).length = i + 1 from by rw [create_len, many_len])
      rw [nm2_zz] at LL
      simp only [z3] at CM LL
      generalize createL (many i) ⟨#[122, 122]⟩ ⟨#[]⟩ ⟨0, 0, 0⟩ = L at *
      by_cases h12 : 120 ≤ K
      · have e1 := Lib.hid (show i = 120 by have := KM.out; omega)
        have g2 : (120 : Int) ≤ (K : Int) := by omega
        rw [if_pos (by have := e1.out; omega : 120 ≤ i)] at CM
        unfold ShT at CM
        go_wp2_with fail
        with_reducible refine CM.out.mono ?_
        rintro e w6 ⟨r6, rfl, hb, h6⟩
        replace h6 : IRow w6 [] r6 := h6
        obtain ⟨ro6, rc6, rfl⟩ := h6.shape
        have D6 := Lib.hid (below_tr BR.out hb)
        clear hb h6
        go_wp2_with (go_at_call 27; (with_reducible refine (NU.out _ _).mono ?_); rintro e w'' ⟨rfl, rfl⟩)
        with_reducible refine (AW.out _).mono ?_
        rintro e w7 ⟨rfl, hb⟩
        have D7 := Lib.hid (below_tr D6.out hb)
        clear hb
        go_wp2_with fail
        go_ret
        exact ⟨rfl, D7.out⟩
      · have e1 := Lib.hid (show i = K by have := KM.out; omega)
        have g2 : ¬ (120 : Int) ≤ (K : Int) := by omega
        rw [if_neg (by have := e1.out; omega : ¬ 120 ≤ i)] at CM
        unfold ShT at CM
        go_wp2_with fail
        with_reducible refine CM.out.mono ?_
        rintro e w6 ⟨r6, rfl, hb, h6⟩
        replace h6 : IRow w6 L r6 := h6
        obtain ⟨ro6, rc6, rfl⟩ := h6.shape
        have D6 := Lib.hid (below_tr BR.out hb)
        have l1 : (L.length : Int) = (K : Int) + 1 := by have := LL.out; have := e1.out; omega
        clear hb h6
        go_wp2_with (go_at_call 27; (with_reducible refine (NU.out _ _).mono ?_); rintro e w'' ⟨rfl, rfl⟩)
        with_reducible refine (AW.out _).mono ?_
        rintro e w7 ⟨rfl, hb⟩
        have D7 := Lib.hid (below_tr D6.out hb)
        clear hb
        go_wp2_with fail
        go_ret
        exact ⟨rfl, D7.out⟩
end
end Go.Proofs.Ytmpakgabehplbaa
