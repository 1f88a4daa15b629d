/- Package tree's calls; the law's awake. -/
import Derived.Test.YtmpakgabehplbaaTrN
import Derived.Test.YtmpakgabehplbaaTrI
import Derived.Test.YtmpakgabehplbaaVecN
import Derived.Test.YtmpakgabehplbaaShelf
namespace Go.Proofs.Ytmpakgabehplbaa
open Go.RowKit
set_option linter.unusedVariables false
set_option linter.unusedSimpArgs false
theorem cmp_lt : ∀ (a b : List UInt8), (Lib.compareBytes a b < 0 ↔ Op.bytesLess a b = true) ∧ (Lib.compareBytes a b = 0 ↔ a = b)
  | [], [] => by simp [Lib.compareBytes, Op.bytesLess]
  | [], b :: y => by simp [Lib.compareBytes, Op.bytesLess]
  | a :: x, [] => by simp [Lib.compareBytes, Op.bytesLess]
  | a :: x, b :: y => by
    have ih := cmp_lt x y
    unfold Lib.compareBytes
    simp only [Op.bytesLess, Bool.or_eq_true, decide_eq_true_eq, Bool.and_eq_true, beq_iff_eq, List.cons.injEq]
    by_cases h1 : a < b
    · have h2 : a ≠ b := fun e => by subst e; exact absurd h1 (UInt8.lt_irrefl a)
      simp [h1, h2]
    · by_cases h2 : b < a
      · have h3 : a ≠ b := fun e => by subst e; exact absurd h2 (UInt8.lt_irrefl a)
        simp [h1, h2, h3]
      · have e : a = b := UInt8.le_antisymm (UInt8.not_lt.1 h2) (UInt8.not_lt.1 h1)
        subst e
        simp only [h1, if_false, true_and, false_or]
        exact ih
/-- The place by halves. -/
def halfT (less : Nat → Bool) : Nat → Nat → Nat → Nat
  | 0, lo, _ => lo
  | f + 1, lo, hi => if lo < hi then (if less ((lo + hi) / 2) then halfT less f ((lo + hi) / 2 + 1) hi else halfT less f lo ((lo + hi) / 2)) else lo
theorem halfT_fuel (less : Nat → Bool) : ∀ (f g lo hi : Nat), hi - lo ≤ f → hi - lo ≤ g → halfT less f lo hi = halfT less g lo hi
  | 0, 0, _, _, _, _ => rfl
  | 0, g + 1, lo, hi, hf, _ => by simp [halfT, show ¬ lo < hi by omega]
  | f + 1, 0, lo, hi, _, hg => by simp [halfT, show ¬ lo < hi by omega]
  | f + 1, g + 1, lo, hi, hf, hg => by
    unfold halfT
    by_cases h : lo < hi
    · rw [if_pos h, if_pos h, halfT_fuel less f g _ _ (by omega) (by omega), halfT_fuel less f g lo _ (by omega) (by omega)]
    · rw [if_neg h, if_neg h]
def cmpS (a b : ByteArray) : Int := Lib.compareBytes a.data.toList b.data.toList
theorem cmpS_lt {a b : ByteArray} : cmpS a b < 0 ↔ ltS a b = true := by
  unfold cmpS ltS
  rw [ByteArray.toList_eq, ByteArray.toList_eq]
  exact (cmp_lt _ _).1
theorem cmpS_eq {a b : ByteArray} : cmpS a b = 0 ↔ a = b := by
  unfold cmpS
  rw [(cmp_lt _ _).2]
  exact ⟨fun h => ByteArray.ext (Array.ext' h), fun h => by rw [h]⟩
theorem cmpS_i64 (a b : ByteArray) : -1 ≤ cmpS a b ∧ cmpS a b ≤ 1 := by
  unfold cmpS
  generalize a.data.toList = x
  generalize b.data.toList = y
  induction x generalizing y with
  | nil => cases y <;> simp [Lib.compareBytes]
  | cons p x ih =>
    cases y with
    | nil => simp [Lib.compareBytes]
    | cons q y =>
      unfold Lib.compareBytes
      split
      · omega
      · split
        · omega
        · exact ih y
def lessT (l : List I12) (s : ByteArray) (t : Nat) : Bool := ltS (nameAt l t) s
def placeT (l : List I12) (s : ByteArray) : Nat := halfT (lessT l s) l.length 0 l.length
def foundT (l : List I12) (s : ByteArray) : Bool := decide (placeT l s < l.length ∧ nameAt l (placeT l s) = s)
theorem found_some {l : List I12} (h : Srt l) {s : ByteArray} {k : Nat} (hk : iIdx l s = some k) : placeT l s = k ∧ foundT l s = true := by
  obtain ⟨x, hx, hn, -⟩ := iIdx_spec hk
  have hkl := iIdx_lt hk
  have hxl : l[k] = x := by rw [List.getElem?_eq_getElem hkl] at hx; exact Option.some.inj hx
  unfold Srt at h
  rw [List.pairwise_iff_getElem] at h
  have hp : placeT l s = k := by
    unfold placeT
    have hlt : ∀ t, t < k → lessT l s t = true := fun t ht => by
      unfold lessT
      rw [nameAt_at (List.getElem?_eq_getElem (show t < l.length by omega)), ← hn, ← hxl]
      exact h t k (by omega) hkl ht
    have hge : ∀ t, k ≤ t → t < l.length → lessT l s t = false := fun t ht htl => by
      unfold lessT
      rw [nameAt_at (List.getElem?_eq_getElem htl)]
      by_cases e : t = k
      · subst e; rw [hxl, hn]; exact ltS_irr _
      · rw [← hn, ← hxl]
        exact ltS_asym (h k t hkl htl (by omega))
    have key : ∀ (f lo hi : Nat), hi - lo ≤ f → lo ≤ k → k ≤ hi → hi ≤ l.length → halfT (lessT l s) f lo hi = k := by
      intro f
      induction f with
      | zero => intro lo hi h1 h2 h3 h4; simp [halfT]; omega
      | succ f ih =>
        intro lo hi h1 h2 h3 h4
        unfold halfT
        by_cases hlh : lo < hi
        · rw [if_pos hlh]
          by_cases hm : (lo + hi) / 2 < k
          · rw [hlt _ hm, if_pos rfl]; exact ih _ _ (by omega) (by omega) h3 h4
          · rw [hge _ (by omega) (by omega)]
            rw [if_neg (by decide)]
            exact ih _ _ (by omega) h2 (by omega) (by omega)
        · rw [if_neg hlh]; omega
    exact key _ _ _ (by omega) (Nat.zero_le _) (by omega) (Nat.le_refl _)
  refine ⟨hp, ?_⟩
  unfold foundT
  rw [hp]
  exact decide_eq_true ⟨hkl, by rw [nameAt_at hx]; exact hn⟩
theorem found_none {l : List I12} {s : ByteArray} (hk : iIdx l s = none) : foundT l s = false := by
  unfold foundT
  refine decide_eq_false ?_
  rintro ⟨h1, h2⟩
  rw [nameAt_at (List.getElem?_eq_getElem h1)] at h2
  exact iIdx_no hk _ (List.getElem_mem h1) h2
section
variable (w : World)
set_option maxHeartbeats 4000000 in
set_option maxRecDepth 20000 in
theorem pbyName (x : I12) (s : ByteArray) :
    Calls Try.prog 83 #[x.val, .string s] w (Made (.int .i64 (cmpS x.name s)) w) := by
  have SC := Lib.hid (fun W => Try.strings_Compare x.name s W)
  unfold I12.val I12.cells
  unfold cmpS
  go_enter Try.func83, Try.ntmps83
  go_wp2_with fail
  with_reducible refine (SC.out _).mono ?_
  rintro e w1 ⟨rfl, rfl⟩
  go_wp2_with fail
  go_ret
  exact ⟨rfl, below_al (Below.refl _ _) _⟩
set_option maxHeartbeats 8000000 in
set_option maxRecDepth 100000 in
theorem pbsearch (l : List I12) (lv : Value) (h : IRow w l lv) (hl : l.length ≤ 1000) (s : ByteArray) :
    Calls Try.prog 82 #[lv, .string s, .func (.func 83) #[] #[]] w (Made (.tuple #[.int .i64 (placeT l s : Nat), .bool (foundT l s)]) w) := by
  obtain ⟨ao, cap, rfl, h1, h2, hat⟩ := h
  have HAT := Lib.hid hat
  obtain ⟨I, hI⟩ : ∃ I, placeT l s = I := ⟨_, rfl⟩
  have HH := Lib.hid (show foundT l s = decide (I < l.length ∧ nameAt l I = s) by unfold foundT; rw [hI])
  have HP := Lib.hid hI
  have HI : Hid (halfT (lessT l s) l.length 0 l.length = I) := Lib.hid hI
  rw [hI]
  clear hat h1 h2 hI
  go_enter Try.func82, Try.ntmps82
  go_wp2_with fail
  go_loopg [9, 10] l.length (fun g s7 s8 wr => ∃ lo hi : Nat, s7 = .int .i64 lo ∧ s8 = .int .i64 hi ∧ lo ≤ hi ∧ hi ≤ l.length ∧ hi - lo ≤ g ∧ Below w.heap.size w wr ∧ Hid (halfT (lessT l s) g lo hi = I))
  case atStart => exact ⟨0, l.length, rfl, rfl, Nat.zero_le _, Nat.le_refl _, by omega, Below.refl _ _, HI⟩
  case round =>
    obtain ⟨lo, hi, rfl, rfl, hlh, hin, hg, hbr, hb⟩ := hrel
    have BR := Lib.hid hbr
    clear hbr HI
    by_cases hlt : lo < hi
    · have hm : (lo + hi) / 2 < l.length := by omega
      obtain ⟨y, hy⟩ : ∃ y, l[(lo + hi) / 2]? = some y := ⟨_, List.getElem?_eq_getElem hm⟩
      obtain ⟨gx, o, rfl, hc⟩ := HAT.out _ y hy
      have HCW := Lib.hid (hc.below BR.out)
      have HG := Lib.hid hg
      obtain ⟨g', rfl⟩ : ∃ g', gk = g' + 1 := ⟨gk - 1, by omega⟩
      have HB := Lib.hid (show (if lessT l s ((lo + hi) / 2) = true then halfT (lessT l s) g' ((lo + hi) / 2 + 1) hi else halfT (lessT l s) g' lo ((lo + hi) / 2)) = I by
        have := hb.out
        rw [halfT, if_pos hlt] at this
        exact this)
      have HL := Lib.hid (show lessT l s ((lo + hi) / 2) = ltS y.name s from by unfold lessT; rw [nameAt_at hy])
      have PC := Lib.hid (fun W => pbyName W y s)
      unfold I12.val I12.cells at PC
      have CI := cmpS_i64 y.name s
      have CL := @cmpS_lt y.name s
      clear hb hg hy hc
      obtain ⟨k0, k1, k2, k3, k4, k5, k6, k7, k8, k9, k10, k11⟩ := HCW.out
      cases hq : lessT l s ((lo + hi) / 2)
      · have H2 := Lib.hid (show halfT (lessT l s) ((lo + hi) / 2 - lo) lo ((lo + hi) / 2) = I by
          have := HB.out
          rw [hq, if_neg (by simp)] at this
          rw [← this]
          exact halfT_fuel _ _ _ _ _ (Nat.le_refl _) (by have := HG.out; omega))
        have cn : ¬ cmpS y.name s < 0 := fun e => by
          have := CL.1 e
          rw [← HL.out, hq] at this; cases this
        generalize cmpS y.name s = cv at *
        clear hq HL HB CL CI
        go_wp2_with fail
        with_reducible refine (PC.out _).mono ?_
        rintro e w1 ⟨rfl, hb⟩
        have B1 := Lib.hid (below_tr BR.out hb)
        clear hb
        go_wp2_with fail
        go_roundg ((lo + hi) / 2 - lo)
        case measure => have := HG.out; omega
        case rel => exact ⟨lo, (lo + hi) / 2, rfl, by rw [show ((lo : Int) + (hi : Int)) / 2 = (((lo + hi) / 2 : Nat) : Int) by omega], by omega, by omega, Nat.le_refl _, B1.out, H2⟩
      · have H2 := Lib.hid (show halfT (lessT l s) (hi - ((lo + hi) / 2 + 1)) ((lo + hi) / 2 + 1) hi = I by
          have := HB.out
          rw [hq, if_pos rfl] at this
          rw [← this]
          exact halfT_fuel _ _ _ _ _ (Nat.le_refl _) (by have := HG.out; omega))
        have cn : cmpS y.name s < 0 := CL.2 (by rw [← HL.out, hq])
        generalize cmpS y.name s = cv at *
        clear hq HL HB CL CI
        go_wp2_with fail
        with_reducible refine (PC.out _).mono ?_
        rintro e w1 ⟨rfl, hb⟩
        have B1 := Lib.hid (below_tr BR.out hb)
        clear hb
        go_wp2_with fail
        go_roundg (hi - ((lo + hi) / 2 + 1))
        case measure => have := HG.out; omega
        case rel => exact ⟨(lo + hi) / 2 + 1, hi, by rw [show ((lo : Int) + (hi : Int)) / 2 + 1 = (((lo + hi) / 2 + 1 : Nat) : Int) by omega], rfl, by omega, hin, Nat.le_refl _, B1.out, H2⟩
    · obtain rfl : hi = lo := by omega
      have hIe : I = hi := by
        rw [← hb.out]
        cases gk <;> simp [halfT]
      subst hIe
      clear hb hg hlh
      by_cases hn : I < l.length
      · obtain ⟨y, hy⟩ : ∃ y, l[I]? = some y := ⟨_, List.getElem?_eq_getElem hn⟩
        obtain ⟨gx, o, rfl, hc⟩ := HAT.out _ y hy
        have HCW := Lib.hid (hc.below BR.out)
        have FF := Lib.hid (show foundT l s = decide (cmpS y.name s = 0) from by
          rw [HH.out, nameAt_at hy]
          exact decide_eq_decide.2 ⟨fun h => cmpS_eq.2 h.2, fun h => ⟨hn, cmpS_eq.1 h⟩⟩)
        have PC := Lib.hid (fun W => pbyName W y s)
        unfold I12.val I12.cells at PC
        clear hy hc HH
        obtain ⟨k0, k1, k2, k3, k4, k5, k6, k7, k8, k9, k10, k11⟩ := HCW.out
        by_cases hz : cmpS y.name s = 0
        · have R := Lib.hid (show foundT l s = true from by rw [FF.out]; exact decide_eq_true hz)
          rw [hz] at PC
          clear hz FF
          go_wp2_with fail
          with_reducible refine (PC.out _).mono ?_
          rintro e w1 ⟨rfl, hb⟩
          have B1 := Lib.hid (below_tr BR.out hb)
          clear hb
          go_wp2_with fail
          go_ret2
          exact ⟨by rw [R.out]; rfl, B1.out⟩
        · have R := Lib.hid (show foundT l s = false from by rw [FF.out]; exact decide_eq_false hz)
          generalize cmpS y.name s = cv at *
          have ne : (cv == 0) = false := by simpa using hz
          clear hz FF
          go_wp2_with fail
          with_reducible refine (PC.out _).mono ?_
          rintro e w1 ⟨rfl, hb⟩
          have B1 := Lib.hid (below_tr BR.out hb)
          clear hb
          go_wp2_with fail
          go_ret2
          exact ⟨by rw [R.out]; rfl, B1.out⟩
      · have R := Lib.hid (show foundT l s = false from by rw [HH.out]; exact decide_eq_false (fun h => hn h.1))
        clear HH
        go_wp2_with fail
        go_ret2
        exact ⟨by rw [R.out]; rfl, BR.out⟩
end
end Go.Proofs.Ytmpakgabehplbaa
namespace Go.Proofs.Ytmpakgabehplbaa
open Go.RowKit
set_option linter.unusedVariables false
set_option linter.unusedSimpArgs false
theorem kids_below (l : List I12) (s : ByteArray) : ∀ k, k ≤ l.length → (kidsT l s k).map (nameAt l) = belowTo l s k
  | 0, _ => by simp [kidsT, belowTo]
  | k + 1, h => by
    have hx := List.getElem?_eq_getElem (show k < l.length by omega)
    rw [kidsT_step hx, belowTo_step hx]
    split
    · rw [List.map_append, kids_below l s k (by omega)]
      simp only [List.map_cons, List.map_nil, nameAt_at hx]
    · exact kids_below l s k (by omega)
theorem up_same {l : List I12} {s : ByteArray} (h : (upI l s).length ≤ l.length) : upF l l.length s = upI l s := by
  unfold upI at *
  rw [upF_take l l.length 1 s, List.take_of_length_le h]
section
variable (w : World)
set_option maxHeartbeats 4000000 in
set_option maxRecDepth 20000 in
theorem pfind (l : List I12) (lv : Value) (h : IRow w l lv) (hl : l.length ≤ 1000) (hs : Srt l) (s : ByteArray) :
    Calls Try.prog 73 #[lv, .string s] w (Made (.int .i64 (findI l s)) w) := by
  have BS := Lib.hid (pbsearch w l lv h hl s)
  obtain ⟨ao, cap, rfl⟩ := h.shape
  cases hk : iIdx l s with
  | none =>
    have R := Lib.hid (show findI l s = -1 by unfold findI; rw [hk])
    have F := found_none hk
    rw [F] at BS
    generalize placeT l s = q at *
    clear h hs hk F
    go_enter Try.func73, Try.ntmps73
    go_wp2_with fail
    with_reducible refine BS.out.mono ?_
    rintro e w1 ⟨rfl, hb⟩
    have B1 := Lib.hid hb
    clear hb
    go_wp2_with fail
    go_ret
    exact ⟨by rw [R.out]; rfl, B1.out⟩
  | some k =>
    have R := Lib.hid (show findI l s = (k : Int) by unfold findI; rw [hk])
    obtain ⟨F1, F2⟩ := found_some hs hk
    rw [F1, F2] at BS
    clear h hs hk F1 F2
    go_enter Try.func73, Try.ntmps73
    go_wp2_with fail
    with_reducible refine BS.out.mono ?_
    rintro e w1 ⟨rfl, hb⟩
    have B1 := Lib.hid hb
    clear hb
    go_wp2_with fail
    go_ret
    exact ⟨by rw [R.out]; rfl, B1.out⟩
set_option maxHeartbeats 4000000 in
set_option maxRecDepth 20000 in
theorem pFind (l : List I12) (lv : Value) (h : IRow w l lv) (hl : l.length ≤ 1000) (hs : Srt l) (s : ByteArray) :
    Calls Try.prog 59 #[lv, .string s] w (Made (.int .i64 (findI l s)) w) := by
  have PF := Lib.hid (pfind w l lv h hl hs s)
  obtain ⟨ao, cap, rfl⟩ := h.shape
  clear h hs
  go_enter Try.func59, Try.ntmps59
  go_wp2_with fail
  with_reducible refine PF.out.mono ?_
  rintro e w1 ⟨rfl, hb⟩
  have B1 := Lib.hid hb
  clear hb
  go_wp2_with fail
  go_ret
  exact ⟨rfl, B1.out⟩
set_option maxHeartbeats 4000000 in
set_option maxRecDepth 20000 in
theorem pup (l : List I12) (lv : Value) (h : IRow w l lv) (hl : l.length ≤ 1000) (hs : Srt l) (s : ByteArray) :
    Calls Try.prog 78 #[lv, .string s] w (MadeStrs (upF l l.length s) w) := by
  have RF := Lib.hid (fun W (hW : Below w.heap.size w W) s => pfind W l lv (h.below hW) hl hs s)
  obtain ⟨i0, hi0, hz0, hz1, hz2⟩ := info_partsT info_str
  obtain ⟨ao, cap, rfl, h1, h2, hat⟩ := h
  have HAT := Lib.hid hat
  clear hat h1 h2 hs
  go_enter Try.func78, Try.ntmps78
  go_wp2_with fail
  with_reducible refine (RF.out w (Below.refl _ _) s).mono ?_
  rintro e w1 ⟨rfl, hb1⟩
  have B0 := Lib.hid hb1
  clear hb1
  go_wp2_with fail
  go_loopg [5, 6] l.length (fun m ov kv wr => ∃ (out : List ByteArray) (t : ByteArray), kv = .int .i64 (findI l t) ∧ out.length ≤ l.length ∧ l.length - out.length ≤ m ∧ Below w.heap.size w wr ∧ StrsO wr w.heap.size ov out ∧ Hid (upF l l.length s = out ++ upF l (l.length - out.length) t))
  case atStart => exact ⟨[], s, rfl, Nat.zero_le _, Nat.le_refl _, B0.out, (own_none _ _ _ _ : World.ownsRow _ _ _ _ _ _ _), Lib.hid rfl⟩
  case round =>
    obtain ⟨out, t, rfl, hol, hm, hb, ho, UP⟩ := hrel
    have HM := Lib.hid hm
    have BR := Lib.hid hb
    have OO := Lib.hid ho
    obtain ⟨oo, oc, rfl⟩ := ho.shape
    clear hm hb ho
    cases hk : iIdx l t with
    | none =>
      have E := Lib.hid (show findI l t = -1 by unfold findI; rw [hk])
      have R := Lib.hid (show upF l l.length s = out by rw [UP.out, upF_none hk, List.append_nil])
      rw [E.out]
      clear hk UP
      go_wp2_with fail
      go_ret
      exact ⟨_, rfl, BR.out, by rw [R.out]; exact OO.out⟩
    | some k =>
      have E := Lib.hid (show findI l t = (k : Int) by unfold findI; rw [hk])
      obtain ⟨x, hx, -⟩ := iIdx_spec hk
      have hkl := iIdx_lt hk
      have KK := Lib.hid hk
      have HX := Lib.hid hx
      obtain ⟨g, o, rfl, hcu⟩ := HAT.out k x hx
      have c0 := hold BR.out hcu.c0
      have c1 := hold BR.out hcu.c1
      have kp : (0 : Int) ≤ (k : Int) := by omega
      rw [E.out]
      clear hk hx hcu
      by_cases hfull : out.length = l.length
      · have R := Lib.hid (show upF l l.length s = out by rw [UP.out, hfull, Nat.sub_self]; unfold upF; rw [List.append_nil])
        have HF := Lib.hid hfull
        have gf : ¬ out.length < l.length := by omega
        have gf2 : ¬ (out.length : Int) < (l.length : Int) := by omega
        have gf3 : (l.length : Int) ≤ (out.length : Int) := by omega
        have gl : out.length ≤ 1001 := by omega
        clear UP hfull
        go_wp2_with fail
        go_ret
        exact ⟨.slice oo out.length oc, rfl, BR.out, by rw [R.out]; exact OO.out⟩
      · have hlt : out.length < l.length := by omega
        have gf : (out.length : Int) < (l.length : Int) := by omega
        have NU := Lib.hid (show upF l l.length s = (out ++ [x.name]) ++ upF l (l.length - (out ++ [x.name]).length) x.parent from by
          rw [UP.out, show l.length - out.length = (l.length - out.length - 1) + 1 by omega, upF_some KK.out HX.out, List.append_assoc, List.length_append, List.length_singleton]
          congr 3)
        have BX := Lib.hid (below_al (Below.refl wr.heap.size wr) (.cells #[.string x.name] 9))
        have O1 := Lib.hid (show (wr.alloc (.cells #[.string x.name] 9)).ownsRow w.heap.size 9 1 (.slice oo out.length oc) out.length (strC out) from World.ownsRow.alloc OO.out _)
        have B1 := Lib.hid (below_tr BR.out BX.out)
        have LOW := Lib.hid (show ∀ q, (Value.slice oo out.length oc).ownBlock = some q → w.heap.size ≤ q from fun q hq => (World.ownsRow.lt OO.out q hq).1)
        have SZ := Lib.hid BR.out.size
        clear UP
        go_wp2_with (first
          | (at_builtin; refine wpList_append_lies _ rfl _ _ 64 rfl w.heap.size 9 i0 (.string ⟨#[]⟩) 1 16 Try.underlying64 hi0 hz0 hz1 hz2 rfl (by decide) (.slice oo out.length oc) out.length (strC out) rfl O1.out ⟨wr.heap.size, 0, none⟩ 1 1 [.string x.name] rfl rfl (news_str wr x.name) (by simp [Value.oneCell']) (by decide) (by unfold maxLen; omega) (by omega) B1.out.size _ rfl ?_; intro gg cc w6 hown6 hgrow6 hat6 hlt6; have c16 := grow_cellT hgrow6 (hold BX.out c1) (fun e => by have h7 := LOW.out g e; have h8 := World.block_lt_of_cell? _ _ (HAT.out k x HX.out |> fun ⟨_, _, e2, h9⟩ => by cases e2; exact h9.c0); simp only at h8; omega)))
        have B6 := Lib.hid (below_grown' B1.out hgrow6 LOW.out)
        have O6 := Lib.hid (show StrsO w6 w.heap.size (.slice (some ⟨gg, 0, none⟩) (out.length + 1) cc) (out ++ [x.name]) from by
          unfold StrsO
          rw [List.length_append, strC_app]; exact hown6)
        have FP := Lib.hid (RF.out w6 B6.out x.parent)
        clear hown6 hgrow6 hat6 hlt6
        with_reducible refine FP.out.mono ?_
        rintro e w7 ⟨rfl, h7⟩
        have B7 := Lib.hid (below_tr B6.out h7)
        have O7 := Lib.hid (O6.out.below h7)
        clear h7
        go_wp2_with fail
        go_roundg (l.length - (out.length + 1))
        case rel => exact ⟨out ++ [x.name], x.parent, rfl, by rw [List.length_append]; simp; omega, by rw [List.length_append]; exact Nat.le_refl _, B7.out, O7.out, NU⟩
        case measure => have := HM.out; omega
set_option maxHeartbeats 4000000 in
set_option maxRecDepth 20000 in
theorem punder (l : List I12) (lv : Value) (h : IRow w l lv) (hl : l.length ≤ 200) (s : ByteArray) (hz : s.size ≤ 1000000) (B g : Nat) (d : DataW Value) (V : ByteArray → Value) (hM : MapIn w B g l.length d V (fun s => kidsT l s l.length)) :
    Calls Try.prog 81 #[.agg #[lv, .map (some g)], .string s] w (MadeStrs (belowI l s) w) := by
  obtain ⟨ao, cap, rfl, h1, h2, hat⟩ := h
  have HAT := Lib.hid hat
  have NX := Lib.hid (heap_alloc_new w (.cells #[.slice ao l.length cap, .map (some g)] 106))
  have MX := Lib.hid (hM.alloc (.cells #[.slice ao l.length cap, .map (some g)] 106))
  have BX := Lib.hid (below_al (Below.refl w.heap.size w) (.cells #[.slice ao l.length cap, .map (some g)] 106))
  have KL := Lib.hid (kidsT_len l s l.length)
  have KLT := Lib.hid (show ∀ i ∈ kidsT l s l.length, i < l.length from fun i hi => (kidsT_mem.1 hi).1)
  have KS := Lib.hid (show (kidsT l s l.length).map (nameAt l) = belowI l s from (kids_below l s l.length (Nat.le_refl _)).trans (belowTo_all l s))
  have KR := Lib.hid (MX.out.row s)
  have lk := look_below MX.out.map (s := s) (by unfold maxLen; omega) (MX.out.at' s)
  obtain ⟨vo, vc, hV⟩ := own_shape (MX.out.row s)
  rw [hV] at lk KR
  obtain ⟨i0, hi0, hz0, hz1, hz2⟩ := info_partsT info_str
  generalize belowI l s = res at *
  generalize kidsT l s l.length = ks at *
  have kl : ks.length ≤ 1000 := by have := KL.out; omega
  clear h1 h2 hM hat hV
  go_enter Try.func81, Try.ntmps81
  go_wp2_with fail
  generalize hqb : w.heap.size = qb at *
  generalize w.alloc (.cells #[.slice ao l.length cap, .map (some g)] 106) = wb at *
  have HQB := Lib.hid hqb
  clear hqb lk
  go_loopg [5, 13] ks.length (fun m ov kv wr => ∃ k : Nat, kv = .int .i64 (k : Int) ∧ k ≤ ks.length ∧ ks.length - k ≤ m ∧ Below wb.heap.size wb wr ∧ StrsO wr wb.heap.size ov ((ks.take k).map (nameAt l)))
  case atStart => exact ⟨0, rfl, Nat.zero_le _, Nat.le_refl _, Below.refl _ _, (own_none _ _ _ _ : World.ownsRow _ _ _ _ _ _ _)⟩
  case round =>
    obtain ⟨k, rfl, hk, hm, hb, ho⟩ := hrel
    have HM := Lib.hid hm
    have BR := Lib.hid hb
    have OO := Lib.hid ho
    obtain ⟨oo, oc, rfl⟩ := ho.shape
    clear hm hb ho
    have BWR := Lib.hid (show Below w.heap.size w wr from by rw [HQB.out]; exact (BX.out.trans (BR.out.mono (by have := BX.out.size; have := HQB.out; omega))))
    by_cases hlt : k < ks.length
    · obtain ⟨i, hi⟩ : ∃ i, ks[k]? = some i := ⟨_, List.getElem?_eq_getElem hlt⟩
      have hil := KLT.out i (List.mem_of_getElem? hi)
      obtain ⟨x, hx⟩ : ∃ x, l[i]? = some x := ⟨_, List.getElem?_eq_getElem hil⟩
      obtain ⟨gx, o, rfl, hc⟩ := HAT.out i x hx
      have c0 := (hc.below BWR.out).c0
      obtain ⟨bk, rfl, q0'⟩ := own_cell KR.out hi
      have q0 := hold BR.out q0'
      have NBR := Lib.hid ((BR.out.block qb (Array.getElem?_eq_some_iff.1 NX.out).1).trans NX.out)
      have b0 : wr.cell? ⟨qb, 0, none⟩ = some (.slice (some ⟨gx, o, none⟩) l.length cap) := (cell_of_row _ _ 0 _ _ _ NBR.out).trans rfl
      have NS := Lib.hid (show (ks.take (k + 1)).map (nameAt l) = (ks.take k).map (nameAt l) ++ [x.name] from by
        rw [List.take_add_one, hi]
        simp only [Option.toList_some, List.map_append, List.map_cons, List.map_nil, nameAt_at hx])
      have LN := Lib.hid (show ((ks.take k).map (nameAt l)).length ≤ 1000 from by rw [List.length_map, List.length_take]; omega)
      have x0 : (0 : Int) ≤ (i : Int) := by omega
      have x1 : (i : Int) < (l.length : Int) := by omega
      clear hi hx hc q0'
      generalize hout : (ks.take k).map (nameAt l) = out at *
      clear hout
      have BA := Lib.hid (below_al (Below.refl wr.heap.size wr) (.cells #[.string x.name] 9))
      have O1 := Lib.hid (show (wr.alloc (.cells #[.string x.name] 9)).ownsRow wb.heap.size 9 1 (.slice oo out.length oc) out.length (strC out) from World.ownsRow.alloc OO.out _)
      have B1 := Lib.hid (show Below wb.heap.size wb (wr.alloc (.cells #[.string x.name] 9)) from BR.out.trans (BA.out.mono BR.out.size))
      have LOW := Lib.hid (show ∀ q, (Value.slice oo out.length oc).ownBlock = some q → wb.heap.size ≤ q from fun q hq => (World.ownsRow.lt OO.out q hq).1)
      go_wp2_with (first
        | (at_builtin; refine wpList_append_lies _ rfl _ _ 64 rfl wb.heap.size 9 i0 (.string ⟨#[]⟩) 1 16 Try.underlying64 hi0 hz0 hz1 hz2 rfl (by decide) (.slice oo out.length oc) out.length (strC out) rfl O1.out ⟨wr.heap.size, 0, none⟩ 1 1 [.string x.name] rfl rfl (news_str wr x.name) (by simp [Value.oneCell']) (by decide) (by have := LN.out; unfold maxLen; omega) (by have := LN.out; omega) B1.out.size _ rfl ?_; intro gg cc w6 hown6 hgrow6 hat6 hlt6))
      have B6 := Lib.hid (below_grown' B1.out hgrow6 LOW.out)
      have O6 := Lib.hid (show StrsO w6 wb.heap.size (.slice (some ⟨gg, 0, none⟩) (out.length + 1) cc) ((ks.take (k + 1)).map (nameAt l)) from by
        rw [NS.out]
        unfold StrsO
        rw [List.length_append, strC_app]; exact hown6)
      clear hown6 hgrow6 hat6 hlt6
      go_wp2_with fail
      go_roundg (ks.length - (k + 1))
      case rel => exact ⟨k + 1, by go_num, hlt, Nat.le_refl _, B6.out, O6.out⟩
      case measure => have := HM.out; omega
    · obtain rfl : k = ks.length := by omega
      have R := Lib.hid (show (ks.take ks.length).map (nameAt l) = res from by rw [List.take_length]; exact KS.out)
      go_wp2_with fail
      go_ret
      exact ⟨_, rfl, BWR.out, by rw [← R.out]; exact own_lower0 OO.out (by have := BX.out.size; exact this)⟩
end
end Go.Proofs.Ytmpakgabehplbaa
namespace Go.Proofs.Ytmpakgabehplbaa
open Go.RowKit
set_option linter.unusedVariables false
set_option linter.unusedSimpArgs false
section
variable (w : World)
set_option maxHeartbeats 4000000 in
set_option maxRecDepth 20000 in
theorem pUp (l : List I12) (lv : Value) (h : IRow w l lv) (hl : l.length ≤ 1000) (hs : Srt l) (s : ByteArray) :
    Calls Try.prog 66 #[lv, .string s] w (MadeStrs (upF l l.length s) w) := by
  have PF := Lib.hid (pup w l lv h hl hs s)
  obtain ⟨ao, cap, rfl⟩ := h.shape
  clear h hs
  go_enter Try.func66, Try.ntmps66
  go_wp2_with fail
  with_reducible refine PF.out.mono ?_
  rintro e w1 ⟨v, rfl, hb, ho⟩
  have B1 := Lib.hid hb
  have O1 := Lib.hid ho
  clear hb ho
  go_wp2_with fail
  go_ret
  exact ⟨_, rfl, B1.out, O1.out⟩
set_option maxHeartbeats 4000000 in
set_option maxRecDepth 20000 in
theorem pBelow (l : List I12) (lv : Value) (h : IRow w l lv) (hl : l.length ≤ 200) (hz : ∀ u ∈ l, u.name.size ≤ 1000000 ∧ u.parent.size ≤ 1000000) (s : ByteArray) (hsz : s.size ≤ 1000000) :
    Calls Try.prog 72 #[lv, .string s] w (MadeStrs (belowI l s) w) := by
  have BR := Lib.hid (pbranch w l lv h (by omega) hz)
  have UN := Lib.hid (fun W (hW : Below w.heap.size w W) B g d V (hM : MapIn W B g l.length d V (fun s => kidsT l s l.length)) => punder W l lv (h.below hW) hl s hsz B g d V hM)
  obtain ⟨ao, cap, rfl⟩ := h.shape
  clear h hz
  go_enter Try.func72, Try.ntmps72
  go_wp2_with fail
  with_reducible refine BR.out.mono ?_
  rintro e w1 ⟨g, rfl, hb1, d, V, hM⟩
  have C1 := Lib.hid hb1
  have M1 := Lib.hid hM
  clear hb1 hM BR
  go_wp2_with fail
  with_reducible refine (UN.out _ C1.out g g d V M1.out).mono ?_
  rintro e w2 ⟨v, rfl, hb, ho⟩
  have B1 := Lib.hid (below_tr C1.out hb)
  have O1 := Lib.hid (own_lower0 ho C1.out.size)
  clear hb ho
  go_wp2_with fail
  go_ret
  exact ⟨_, rfl, B1.out, O1.out⟩
end
def aI : I12 := ⟨⟨#[97]⟩, ⟨#[]⟩, z3, z3, z3, 1⟩
theorem a_right : RT [aI] := ⟨by decide, List.pairwise_singleton .., fun x hx => by
  obtain rfl : x = aI := by simpa using hx
  kernel_rfl, fun x hx => by
  obtain rfl : x = aI := by simpa using hx
  kernel_rfl⟩
theorem a_find : findI [aI] ⟨#[97]⟩ = 0 := by kernel_rfl
theorem a_up : (upF [aI] [aI].length ⟨#[97]⟩).length = 1 := by kernel_rfl
theorem a_below : (belowI [aI] ⟨#[]⟩).length = 1 := by kernel_rfl
theorem nil_right : rightP [] := right_iff.2 RT.nil
end Go.Proofs.Ytmpakgabehplbaa
