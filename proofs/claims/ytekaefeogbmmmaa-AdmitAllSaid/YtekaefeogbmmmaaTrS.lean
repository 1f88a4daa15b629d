/- Package tree: Find by halves; Up, Below, Depth. -/
import Derived.Test.YtekaefeogbmmmaaTrPu
import Derived.Test.YtekaefeogbmmmaaTrI
import Derived.Test.YtekaefeogbmmmaaMono
import Derived.Test.YtekaefeogbmmmaaShelf
namespace Go.Proofs.Ytekaefeogbmmmaa
open Go.RowKit
set_option linter.unusedVariables false
set_option linter.unusedSimpArgs false
theorem cmp_lt : ∀ (a b : List UInt8), (Lib.compareBytes a b < 0 ↔ Op.bytesLess a b = true) ∧ (Lib.compareBytes a b = 0 ↔ a = b)
  | [], [] => by simp [Lib.compareBytes, Op.bytesLess]
  | [], b :: y => by simp [Lib.compareBytes, Op.bytesLess]
  | a :: x, [] => by simp [Lib.compareBytes, Op.bytesLess]
  | a :: x, b :: y => by
    have ih := cmp_lt x y
    unfold Lib.compareBytes
    simp only [Op.bytesLess, Bool.or_eq_true, decide_eq_true_eq, Bool.and_eq_true, beq_iff_eq, List.cons.injEq]
    by_cases h1 : a < b
    · have h2 : a ≠ b := fun e => by subst e; exact absurd h1 (UInt8.lt_irrefl a)
      simp [h1, h2]
    · by_cases h2 : b < a
      · have h3 : a ≠ b := fun e => by subst e; exact absurd h2 (UInt8.lt_irrefl a)
        simp [h1, h2, h3]
      · have e : a = b := UInt8.le_antisymm (UInt8.not_lt.1 h2) (UInt8.not_lt.1 h1)
        subst e
        simp only [h1, if_false, true_and, false_or]
        exact ih
/-- The place by halves. -/
def halfT (less : Nat → Bool) : Nat → Nat → Nat → Nat
  | 0, lo, _ => lo
  | f + 1, lo, hi => if lo < hi then (if less ((lo + hi) / 2) then halfT less f ((lo + hi) / 2 + 1) hi else halfT less f lo ((lo + hi) / 2)) else lo
theorem halfT_fuel (less : Nat → Bool) : ∀ (f g lo hi : Nat), hi - lo ≤ f → hi - lo ≤ g → halfT less f lo hi = halfT less g lo hi
  | 0, 0, _, _, _, _ => rfl
  | 0, g + 1, lo, hi, hf, _ => by simp [halfT, show ¬ lo < hi by omega]
  | f + 1, 0, lo, hi, _, hg => by simp [halfT, show ¬ lo < hi by omega]
  | f + 1, g + 1, lo, hi, hf, hg => by
    unfold halfT
    by_cases h : lo < hi
    · rw [if_pos h, if_pos h, halfT_fuel less f g _ _ (by omega) (by omega), halfT_fuel less f g lo _ (by omega) (by omega)]
    · rw [if_neg h, if_neg h]
def cmpS (a b : ByteArray) : Int := Lib.compareBytes a.data.toList b.data.toList
theorem cmpS_lt {a b : ByteArray} : cmpS a b < 0 ↔ ltS a b = true := by
  unfold cmpS ltS
  rw [ByteArray.toList_eq, ByteArray.toList_eq]
  exact (cmp_lt _ _).1
theorem cmpS_eq {a b : ByteArray} : cmpS a b = 0 ↔ a = b := by
  unfold cmpS
  rw [(cmp_lt _ _).2]
  exact ⟨fun h => ByteArray.ext (Array.ext' h), fun h => by rw [h]⟩
theorem cmpS_i64 (a b : ByteArray) : -1 ≤ cmpS a b ∧ cmpS a b ≤ 1 := by
  unfold cmpS
  generalize a.data.toList = x
  generalize b.data.toList = y
  induction x generalizing y with
  | nil => cases y <;> simp [Lib.compareBytes]
  | cons p x ih =>
    cases y with
    | nil => simp [Lib.compareBytes]
    | cons q y =>
      unfold Lib.compareBytes
      split
      · omega
      · split
        · omega
        · exact ih y
def lessT (l : List I12) (s : ByteArray) (t : Nat) : Bool := ltS (nameAt l t) s
def placeT (l : List I12) (s : ByteArray) : Nat := halfT (lessT l s) l.length 0 l.length
def foundT (l : List I12) (s : ByteArray) : Bool := decide (placeT l s < l.length ∧ nameAt l (placeT l s) = s)
theorem found_some {l : List I12} (h : Srt l) {s : ByteArray} {k : Nat} (hk : iIdx l s = some k) : placeT l s = k ∧ foundT l s = true := by
  obtain ⟨x, hx, hn, -⟩ := iIdx_spec hk
  have hkl := iIdx_lt hk
  have hxl : l[k] = x := by rw [List.getElem?_eq_getElem hkl] at hx; exact Option.some.inj hx
  unfold Srt at h
  rw [List.pairwise_iff_getElem] at h
  have hp : placeT l s = k := by
    unfold placeT
    have hlt : ∀ t, t < k → lessT l s t = true := fun t ht => by
      unfold lessT
      rw [nameAt_at (List.getElem?_eq_getElem (show t < l.length by omega)), ← hn, ← hxl]
      exact h t k (by omega) hkl ht
    have hge : ∀ t, k ≤ t → t < l.length → lessT l s t = false := fun t ht htl => by
      unfold lessT
      rw [nameAt_at (List.getElem?_eq_getElem htl)]
      by_cases e : t = k
      · subst e; rw [hxl, hn]; exact ltS_irr _
      · rw [← hn, ← hxl]
        exact ltS_asym (h k t hkl htl (by omega))
    have key : ∀ (f lo hi : Nat), hi - lo ≤ f → lo ≤ k → k ≤ hi → hi ≤ l.length → halfT (lessT l s) f lo hi = k := by
      intro f
      induction f with
      | zero => intro lo hi h1 h2 h3 h4; simp [halfT]; omega
      | succ f ih =>
        intro lo hi h1 h2 h3 h4
        unfold halfT
        by_cases hlh : lo < hi
        · rw [if_pos hlh]
          by_cases hm : (lo + hi) / 2 < k
          · rw [hlt _ hm, if_pos rfl]; exact ih _ _ (by omega) (by omega) h3 h4
          · rw [hge _ (by omega) (by omega)]
            rw [if_neg (by decide)]
            exact ih _ _ (by omega) h2 (by omega) (by omega)
        · rw [if_neg hlh]; omega
    exact key _ _ _ (by omega) (Nat.zero_le _) (by omega) (Nat.le_refl _)
  refine ⟨hp, ?_⟩
  unfold foundT
  rw [hp]
  exact decide_eq_true ⟨hkl, by rw [nameAt_at hx]; exact hn⟩
theorem found_none {l : List I12} {s : ByteArray} (hk : iIdx l s = none) : foundT l s = false := by
  unfold foundT
  refine decide_eq_false ?_
  rintro ⟨h1, h2⟩
  rw [nameAt_at (List.getElem?_eq_getElem h1)] at h2
  exact iIdx_no hk _ (List.getElem_mem h1) h2
section
variable (w : World)
set_option maxHeartbeats 4000000 in
set_option maxRecDepth 20000 in
theorem pbyName (x : I12) (s : ByteArray) :
    Calls Try.prog 48 #[x.val, .string s] w (Made (.int .i64 (cmpS x.name s)) w) := by
  have SC := Lib.hid (fun W => Try.strings_Compare x.name s W)
  unfold I12.val I12.cells
  unfold cmpS
  go_enter Try.func48, Try.ntmps48
  go_wp2_with fail
  with_reducible refine (SC.out _).mono ?_
  rintro e w1 ⟨rfl, rfl⟩
  go_wp2_with fail
  go_ret
  exact ⟨rfl, below_al (Below.refl _ _) _⟩
set_option maxHeartbeats 8000000 in
set_option maxRecDepth 100000 in
theorem pbsearch (l : List I12) (lv : Value) (h : IRow w l lv) (hl : l.length ≤ 1000) (s : ByteArray) :
    Calls Try.prog 47 #[lv, .string s, .func (.func 48) #[] #[]] w (Made (.tuple #[.int .i64 (placeT l s : Nat), .bool (foundT l s)]) w) := by
  obtain ⟨ao, cap, rfl, h1, h2, hat⟩ := h
  have HAT := Lib.hid hat
  obtain ⟨I, hI⟩ : ∃ I, placeT l s = I := ⟨_, rfl⟩
  have HH := Lib.hid (show foundT l s = decide (I < l.length ∧ nameAt l I = s) by unfold foundT; rw [hI])
  have HP := Lib.hid hI
  have HI : Hid (halfT (lessT l s) l.length 0 l.length = I) := Lib.hid hI
  rw [hI]
  clear hat h1 h2 hI
  go_enter Try.func47, Try.ntmps47
  go_wp2_with fail
  go_loopg [9, 10] l.length (fun g s7 s8 wr => ∃ lo hi : Nat, s7 = .int .i64 lo ∧ s8 = .int .i64 hi ∧ lo ≤ hi ∧ hi ≤ l.length ∧ hi - lo ≤ g ∧ Below w.heap.size w wr ∧ Hid (halfT (lessT l s) g lo hi = I))
  case atStart => exact ⟨0, l.length, rfl, rfl, Nat.zero_le _, Nat.le_refl _, by omega, Below.refl _ _, HI⟩
  case round =>
    obtain ⟨lo, hi, rfl, rfl, hlh, hin, hg, hbr, hb⟩ := hrel
    have BR := Lib.hid hbr
    clear hbr HI
    by_cases hlt : lo < hi
    · have hm : (lo + hi) / 2 < l.length := by omega
      obtain ⟨y, hy⟩ : ∃ y, l[(lo + hi) / 2]? = some y := ⟨_, List.getElem?_eq_getElem hm⟩
      obtain ⟨gx, o, rfl, hc⟩ := HAT.out _ y hy
      have HCW := Lib.hid (hc.below BR.out)
      have HG := Lib.hid hg
      obtain ⟨g', rfl⟩ : ∃ g', gk = g' + 1 := ⟨gk - 1, by omega⟩
      have HB := Lib.hid (show (if lessT l s ((lo + hi) / 2) = true then halfT (lessT l s) g' ((lo + hi) / 2 + 1) hi else halfT (lessT l s) g' lo ((lo + hi) / 2)) = I by
        have := hb.out
        rw [halfT, if_pos hlt] at this
        exact this)
      have HL := Lib.hid (show lessT l s ((lo + hi) / 2) = ltS y.name s from by unfold lessT; rw [nameAt_at hy])
      have PC := Lib.hid (fun W => pbyName W y s)
      unfold I12.val I12.cells at PC
      have CI := cmpS_i64 y.name s
      have CL := @cmpS_lt y.name s
      clear hb hg hy hc
      obtain ⟨k0, k1, k2, k3, k4, k5, k6, k7, k8, k9, k10, k11⟩ := HCW.out
      cases hq : lessT l s ((lo + hi) / 2)
      · have H2 := Lib.hid (show halfT (lessT l s) ((lo + hi) / 2 - lo) lo ((lo + hi) / 2) = I by
          have := HB.out
          rw [hq, if_neg (by simp)] at this
          rw [← this]
          exact halfT_fuel _ _ _ _ _ (Nat.le_refl _) (by have := HG.out; omega))
        have cn : ¬ cmpS y.name s < 0 := fun e => by
          have := CL.1 e
          rw [← HL.out, hq] at this; cases this
        generalize cmpS y.name s = cv at *
        clear hq HL HB CL CI
        go_wp2_with fail
        with_reducible refine (PC.out _).mono ?_
        rintro e w1 ⟨rfl, hb⟩
        have B1 := Lib.hid (below_tr BR.out hb)
        clear hb
        go_wp2_with fail
        go_roundg ((lo + hi) / 2 - lo)
        case measure => have := HG.out; omega
        case rel => exact ⟨lo, (lo + hi) / 2, rfl, by rw [show ((lo : Int) + (hi : Int)) / 2 = (((lo + hi) / 2 : Nat) : Int) by omega], by omega, by omega, Nat.le_refl _, B1.out, H2⟩
      · have H2 := Lib.hid (show halfT (lessT l s) (hi - ((lo + hi) / 2 + 1)) ((lo + hi) / 2 + 1) hi = I by
          have := HB.out
          rw [hq, if_pos rfl] at this
          rw [← this]
          exact halfT_fuel _ _ _ _ _ (Nat.le_refl _) (by have := HG.out; omega))
        have cn : cmpS y.name s < 0 := CL.2 (by rw [← HL.out, hq])
        generalize cmpS y.name s = cv at *
        clear hq HL HB CL CI
        go_wp2_with fail
        with_reducible refine (PC.out _).mono ?_
        rintro e w1 ⟨rfl, hb⟩
        have B1 := Lib.hid (below_tr BR.out hb)
        clear hb
        go_wp2_with fail
        go_roundg (hi - ((lo + hi) / 2 + 1))
        case measure => have := HG.out; omega
        case rel => exact ⟨(lo + hi) / 2 + 1, hi, by rw [show ((lo : Int) + (hi : Int)) / 2 + 1 = (((lo + hi) / 2 + 1 : Nat) : Int) by omega], rfl, by omega, hin, Nat.le_refl _, B1.out, H2⟩
    · obtain rfl : hi = lo := by omega
      have hIe : I = hi := by
        rw [← hb.out]
        cases gk <;> simp [halfT]
      subst hIe
      clear hb hg hlh
      by_cases hn : I < l.length
      · obtain ⟨y, hy⟩ : ∃ y, l[I]? = some y := ⟨_, List.getElem?_eq_getElem hn⟩
        obtain ⟨gx, o, rfl, hc⟩ := HAT.out _ y hy
        have HCW := Lib.hid (hc.below BR.out)
        have FF := Lib.hid (show foundT l s = decide (cmpS y.name s = 0) from by
          rw [HH.out, nameAt_at hy]
          exact decide_eq_decide.2 ⟨fun h => cmpS_eq.2 h.2, fun h => ⟨hn, cmpS_eq.1 h⟩⟩)
        have PC := Lib.hid (fun W => pbyName W y s)
        unfold I12.val I12.cells at PC
        clear hy hc HH
        obtain ⟨k0, k1, k2, k3, k4, k5, k6, k7, k8, k9, k10, k11⟩ := HCW.out
        by_cases hz : cmpS y.name s = 0
        · have R := Lib.hid (show foundT l s = true from by rw [FF.out]; exact decide_eq_true hz)
          rw [hz] at PC
          clear hz FF
          go_wp2_with fail
          with_reducible refine (PC.out _).mono ?_
          rintro e w1 ⟨rfl, hb⟩
          have B1 := Lib.hid (below_tr BR.out hb)
          clear hb
          go_wp2_with fail
          go_ret2
          exact ⟨by rw [R.out]; rfl, B1.out⟩
        · have R := Lib.hid (show foundT l s = false from by rw [FF.out]; exact decide_eq_false hz)
          generalize cmpS y.name s = cv at *
          have ne : (cv == 0) = false := by simpa using hz
          clear hz FF
          go_wp2_with fail
          with_reducible refine (PC.out _).mono ?_
          rintro e w1 ⟨rfl, hb⟩
          have B1 := Lib.hid (below_tr BR.out hb)
          clear hb
          go_wp2_with fail
          go_ret2
          exact ⟨by rw [R.out]; rfl, B1.out⟩
      · have R := Lib.hid (show foundT l s = false from by rw [HH.out]; exact decide_eq_false (fun h => hn h.1))
        clear HH
        go_wp2_with fail
        go_ret2
        exact ⟨by rw [R.out]; rfl, BR.out⟩
end
end Go.Proofs.Ytekaefeogbmmmaa
