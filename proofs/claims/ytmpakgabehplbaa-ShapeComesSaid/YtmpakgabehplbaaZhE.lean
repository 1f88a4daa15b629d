/- Package shape: slices.Insert into a row that has room, walked; in all. -/
import Derived.Test.YtmpakgabehplbaaShG
import Derived.Test.YtmpakgabehplbaaTrU
import Derived.Lib.SlicesS
import Derived.Lib.Overlaps
import Derived.Lib.AppendZerosOnto
import Derived.Laws.CopyRow
import Derived.Laws.NewBlocks
import Derived.Test.YtmpakgabehplbaaVecN
namespace Go.Proofs.Ytmpakgabehplbaa
open Go.RowKit
set_option linter.unusedVariables false
set_option linter.unusedSimpArgs false
section
variable (w : World)
set_option maxHeartbeats 4000000 in
set_option maxRecDepth 20000 in
theorem pcloneJ (l : List I12) (lv : Value) (h : IRow w l lv) (hl : l.length ≤ 1000) : Calls Try.prog 64 #[lv] w (MadeI l w) := by
  obtain ⟨i0, hi0, hz0, hz1, hz2⟩ := info_partsT info_item
  obtain ⟨ao, cap, rfl⟩ := h.shape
  cases ao with
  | none =>
    have hx : l = [] := List.eq_nil_of_length_eq_zero (h.src.1 rfl)
    subst hx
    have hnil := fun W => Lib.run_eql_slice_nil (P := Try.prog) W 22 52 none 0 cap 0 0 Try.underlying22
    clear h
    go_enter Try.func64, Try.ntmps64
    go_wp2_with fail
    go_ret
    exact ⟨_, rfl, Below.refl _ _, IOwn_nil _ _⟩
  | some ad =>
    have BE := Lib.hid (below_al (Below.refl w.heap.size w) (.cells #[] 52))
    have E0 := Lib.hid (show (w.alloc (.cells #[] 52)).ownsRow w.heap.size 52 12 (.slice (some ⟨w.heap.size, 0, none⟩) 0 0) 0 [] from ⟨by simp, .inr ⟨w.heap.size, 0, #[], rfl, Nat.le_refl _, heap_alloc_new w _, Nat.le_refl _, Nat.zero_le _, by simp, by simp⟩⟩)
    obtain ⟨S1, S2⟩ := (h.below BE.out).src
    have s1 := Lib.hid S1
    have s2 := Lib.hid S2
    clear S1 S2 h
    have hnil := fun W => Lib.run_eql_slice_nil (P := Try.prog) W 22 52 (some ad) l.length cap 0 0 Try.underlying22
    go_enter Try.func64, Try.ntmps64
    go_wp2_with (at_builtin; refine wpList_append_any _ rfl _ _ 22 rfl w.heap.size 52 i0 _ 12 112 Try.underlying22 hi0 hz0 hz1 hz2 rfl (by decide) (.slice (some ⟨w.heap.size, 0, none⟩) 0 0) 0 [] rfl E0.out (some ad) l.length cap (i12s l) rfl (i12s_len l) s1.out s2.out (i12s_one _) (by unfold maxLen; omega) (by omega) (by simp) ?_)
    intro v1 w1 hown1 hg1
    have B1 := Lib.hid (below_grown' BE.out hg1 (fun q hq => by have h := (World.ownsRow.lt E0.out q hq).1; omega))
    have O1 := Lib.hid (show IOwn w1 w.heap.size l v1 by unfold IOwn; first | exact hown1 | (rw [Nat.zero_add] at hown1; exact hown1) | simpa using hown1)
    clear hown1 hg1 s1 s2 E0 BE
    go_wp2_with fail
    go_ret
    exact ⟨_, rfl, B1.out, O1.out⟩
set_option maxHeartbeats 4000000 in
set_option maxRecDepth 20000 in
theorem pcloneS (l : List I12) (lv : Value) (h : IRow w l lv) (hl : l.length ≤ 1000) : Calls Try.prog 63 #[lv] w (MadeI l w) := by
  obtain ⟨i0, hi0, hz0, hz1, hz2⟩ := info_partsT info_item
  obtain ⟨ao, cap, rfl⟩ := h.shape
  cases ao with
  | none =>
    have hx : l = [] := List.eq_nil_of_length_eq_zero (h.src.1 rfl)
    subst hx
    have hnil := fun W => Lib.run_eql_slice_nil (P := Try.prog) W 66 52 none 0 cap 0 0 Try.underlying66
    clear h
    go_enter Try.func63, Try.ntmps63
    go_wp2_with fail
    go_ret
    exact ⟨_, rfl, Below.refl _ _, IOwn_nil _ _⟩
  | some ad =>
    have BE := Lib.hid (below_al (Below.refl w.heap.size w) (.cells #[] 52))
    have E0 := Lib.hid (show (w.alloc (.cells #[] 52)).ownsRow w.heap.size 52 12 (.slice (some ⟨w.heap.size, 0, none⟩) 0 0) 0 [] from ⟨by simp, .inr ⟨w.heap.size, 0, #[], rfl, Nat.le_refl _, heap_alloc_new w _, Nat.le_refl _, Nat.zero_le _, by simp, by simp⟩⟩)
    obtain ⟨S1, S2⟩ := (h.below BE.out).src
    have s1 := Lib.hid S1
    have s2 := Lib.hid S2
    clear S1 S2 h
    have hnil := fun W => Lib.run_eql_slice_nil (P := Try.prog) W 66 52 (some ad) l.length cap 0 0 Try.underlying66
    go_enter Try.func63, Try.ntmps63
    go_wp2_with (at_builtin; refine wpList_append_any _ rfl _ _ 66 rfl w.heap.size 52 i0 _ 12 112 Try.underlying66 hi0 hz0 hz1 hz2 rfl (by decide) (.slice (some ⟨w.heap.size, 0, none⟩) 0 0) 0 [] rfl E0.out (some ad) l.length cap (i12s l) rfl (i12s_len l) s1.out s2.out (i12s_one _) (by unfold maxLen; omega) (by omega) (by simp) ?_)
    intro v1 w1 hown1 hg1
    have B1 := Lib.hid (below_grown' BE.out hg1 (fun q hq => by have h := (World.ownsRow.lt E0.out q hq).1; omega))
    have O1 := Lib.hid (show IOwn w1 w.heap.size l v1 by unfold IOwn; first | exact hown1 | (rw [Nat.zero_add] at hown1; exact hown1) | simpa using hown1)
    clear hown1 hg1 s1 s2 E0 BE
    go_wp2_with fail
    go_ret
    exact ⟨_, rfl, B1.out, O1.out⟩
set_option maxHeartbeats 4000000 in
set_option maxRecDepth 20000 in
theorem pbyNameS (x : I12) (s : ByteArray) :
    Calls Try.prog 61 #[x.val, .string s] w (Made (.int .i64 (cmpS x.name s)) w) := by
  have SC := Lib.hid (fun W => Try.strings_Compare x.name s W)
  unfold I12.val I12.cells
  unfold cmpS
  go_enter Try.func61, Try.ntmps61
  go_wp2_with fail
  with_reducible refine (SC.out _).mono ?_
  rintro e w1 ⟨rfl, rfl⟩
  go_wp2_with fail
  go_ret
  exact ⟨rfl, below_al (Below.refl _ _) _⟩
set_option maxHeartbeats 8000000 in
set_option maxRecDepth 100000 in
theorem pbsearchS (l : List I12) (lv : Value) (h : IRow w l lv) (hl : l.length ≤ 1000) (s : ByteArray) :
    Calls Try.prog 60 #[lv, .string s, .func (.func 61) #[] #[]] w (Made (.tuple #[.int .i64 (placeT l s : Nat), .bool (foundT l s)]) w) := by
  obtain ⟨ao, cap, rfl, h1, h2, hat⟩ := h
  have HAT := Lib.hid hat
  obtain ⟨I, hI⟩ : ∃ I, placeT l s = I := ⟨_, rfl⟩
  have HH := Lib.hid (show foundT l s = decide (I < l.length ∧ nameAt l I = s) by unfold foundT; rw [hI])
  have HP := Lib.hid hI
  have HI : Hid (halfT (lessT l s) l.length 0 l.length = I) := Lib.hid hI
  rw [hI]
  clear hat h1 h2 hI
  go_enter Try.func60, Try.ntmps60
  go_wp2_with fail
  go_loopg [9, 10] l.length (fun g s7 s8 wr => ∃ lo hi : Nat, s7 = .int .i64 lo ∧ s8 = .int .i64 hi ∧ lo ≤ hi ∧ hi ≤ l.length ∧ hi - lo ≤ g ∧ Below w.heap.size w wr ∧ Hid (halfT (lessT l s) g lo hi = I))
  case atStart => exact ⟨0, l.length, rfl, rfl, Nat.zero_le _, Nat.le_refl _, by omega, Below.refl _ _, HI⟩
  case round =>
    obtain ⟨lo, hi, rfl, rfl, hlh, hin, hg, hbr, hb⟩ := hrel
    have BR := Lib.hid hbr
    clear hbr HI
    by_cases hlt : lo < hi
    · have hm : (lo + hi) / 2 < l.length := by omega
      obtain ⟨y, hy⟩ : ∃ y, l[(lo + hi) / 2]? = some y := ⟨_, List.getElem?_eq_getElem hm⟩
      obtain ⟨gx, o, rfl, hc⟩ := HAT.out _ y hy
      have HCW := Lib.hid (hc.below BR.out)
      have HG := Lib.hid hg
      obtain ⟨g', rfl⟩ : ∃ g', gk = g' + 1 := ⟨gk - 1, by omega⟩
      have HB := Lib.hid (show (if lessT l s ((lo + hi) / 2) = true then halfT (lessT l s) g' ((lo + hi) / 2 + 1) hi else halfT (lessT l s) g' lo ((lo + hi) / 2)) = I by
        have := hb.out
        rw [halfT, if_pos hlt] at this
        exact this)
      have HL := Lib.hid (show lessT l s ((lo + hi) / 2) = ltS y.name s from by unfold lessT; rw [nameAt_at hy])
      have PC := Lib.hid (fun W => pbyNameS W y s)
      unfold I12.val I12.cells at PC
      have CI := cmpS_i64 y.name s
      have CL := @cmpS_lt y.name s
      clear hb hg hy hc
      obtain ⟨k0, k1, k2, k3, k4, k5, k6, k7, k8, k9, k10, k11⟩ := HCW.out
      cases hq : lessT l s ((lo + hi) / 2)
      · have H2 := Lib.hid (show halfT (lessT l s) ((lo + hi) / 2 - lo) lo ((lo + hi) / 2) = I by
          have := HB.out
          rw [hq, if_neg (by simp)] at this
          rw [← this]
          exact halfT_fuel _ _ _ _ _ (Nat.le_refl _) (by have := HG.out; omega))
        have cn : ¬ cmpS y.name s < 0 := fun e => by
          have := CL.1 e
          rw [← HL.out, hq] at this; cases this
        generalize cmpS y.name s = cv at *
        clear hq HL HB CL CI
        go_wp2_with fail
        with_reducible refine (PC.out _).mono ?_
        rintro e w1 ⟨rfl, hb⟩
        have B1 := Lib.hid (below_tr BR.out hb)
        clear hb
        go_wp2_with fail
        go_roundg ((lo + hi) / 2 - lo)
        case measure => have := HG.out; omega
        case rel => exact ⟨lo, (lo + hi) / 2, rfl, by rw [show ((lo : Int) + (hi : Int)) / 2 = (((lo + hi) / 2 : Nat) : Int) by omega], by omega, by omega, Nat.le_refl _, B1.out, H2⟩
      · have H2 := Lib.hid (show halfT (lessT l s) (hi - ((lo + hi) / 2 + 1)) ((lo + hi) / 2 + 1) hi = I by
          have := HB.out
          rw [hq, if_pos rfl] at this
          rw [← this]
          exact halfT_fuel _ _ _ _ _ (Nat.le_refl _) (by have := HG.out; omega))
        have cn : cmpS y.name s < 0 := CL.2 (by rw [← HL.out, hq])
        generalize cmpS y.name s = cv at *
        clear hq HL HB CL CI
        go_wp2_with fail
        with_reducible refine (PC.out _).mono ?_
        rintro e w1 ⟨rfl, hb⟩
        have B1 := Lib.hid (below_tr BR.out hb)
        clear hb
        go_wp2_with fail
        go_roundg (hi - ((lo + hi) / 2 + 1))
        case measure => have := HG.out; omega
        case rel => exact ⟨(lo + hi) / 2 + 1, hi, by rw [show ((lo : Int) + (hi : Int)) / 2 + 1 = (((lo + hi) / 2 + 1 : Nat) : Int) by omega], rfl, by omega, hin, Nat.le_refl _, B1.out, H2⟩
    · obtain rfl : hi = lo := by omega
      have hIe : I = hi := by
        rw [← hb.out]
        cases gk <;> simp [halfT]
      subst hIe
      clear hb hg hlh
      by_cases hn : I < l.length
      · obtain ⟨y, hy⟩ : ∃ y, l[I]? = some y := ⟨_, List.getElem?_eq_getElem hn⟩
        obtain ⟨gx, o, rfl, hc⟩ := HAT.out _ y hy
        have HCW := Lib.hid (hc.below BR.out)
        have FF := Lib.hid (show foundT l s = decide (cmpS y.name s = 0) from by
          rw [HH.out, nameAt_at hy]
          exact decide_eq_decide.2 ⟨fun h => cmpS_eq.2 h.2, fun h => ⟨hn, cmpS_eq.1 h⟩⟩)
        have PC := Lib.hid (fun W => pbyNameS W y s)
        unfold I12.val I12.cells at PC
        clear hy hc HH
        obtain ⟨k0, k1, k2, k3, k4, k5, k6, k7, k8, k9, k10, k11⟩ := HCW.out
        by_cases hz : cmpS y.name s = 0
        · have R := Lib.hid (show foundT l s = true from by rw [FF.out]; exact decide_eq_true hz)
          rw [hz] at PC
          clear hz FF
          go_wp2_with fail
          with_reducible refine (PC.out _).mono ?_
          rintro e w1 ⟨rfl, hb⟩
          have B1 := Lib.hid (below_tr BR.out hb)
          clear hb
          go_wp2_with fail
          go_ret2
          exact ⟨by rw [R.out]; rfl, B1.out⟩
        · have R := Lib.hid (show foundT l s = false from by rw [FF.out]; exact decide_eq_false hz)
          generalize cmpS y.name s = cv at *
          have ne : (cv == 0) = false := by simpa using hz
          clear hz FF
          go_wp2_with fail
          with_reducible refine (PC.out _).mono ?_
          rintro e w1 ⟨rfl, hb⟩
          have B1 := Lib.hid (below_tr BR.out hb)
          clear hb
          go_wp2_with fail
          go_ret2
          exact ⟨by rw [R.out]; rfl, B1.out⟩
      · have R := Lib.hid (show foundT l s = false from by rw [HH.out]; exact decide_eq_false (fun h => hn h.1))
        clear HH
        go_wp2_with fail
        go_ret2
        exact ⟨by rw [R.out]; rfl, BR.out⟩
set_option maxHeartbeats 4000000 in
set_option maxRecDepth 20000 in
theorem pmayname (s : ByteArray) : Calls Try.prog 34 #[.string s] w (Made (.bool (nameB s)) w) := by
  have NB := Lib.hid (show nameB s = (!decide (s = ⟨#[]⟩) && decide (s.size ≤ 24)) from rfl)
  have hz : s = ⟨#[]⟩ ↔ s.size = 0 := ⟨fun e => by rw [e]; rfl, fun e => by
    cases s with
    | mk d => exact congrArg ByteArray.mk (Array.eq_empty_of_size_eq_zero e)⟩
  generalize hn : s.size = n at *
  generalize hb : nameB s = b at *
  by_cases h1 : 1 ≤ n
  · by_cases h2 : n ≤ 24
    · have R := Lib.hid (show b = true by rw [NB.out, decide_eq_false (fun e => by have := hz.1 e; omega), decide_eq_true h2]; rfl)
      clear hb hz NB
      go_enter Try.func34, Try.ntmps34
      go_wp2_with fail
      go_ret
      exact ⟨by rw [R.out]; show Ending.returned (.bool (decide ((n : Int) ≤ 24))) = _; rw [decide_eq_true (by omega)], Below.refl _ _⟩
    · have R := Lib.hid (show b = false by rw [NB.out, decide_eq_false h2, Bool.and_false])
      clear hb hz NB
      go_enter Try.func34, Try.ntmps34
      go_wp2_with fail
      go_ret
      exact ⟨by rw [R.out]; show Ending.returned (.bool (decide ((n : Int) ≤ 24))) = _; rw [decide_eq_false (by omega)], Below.refl _ _⟩
  · have R := Lib.hid (show b = false by rw [NB.out, decide_eq_true (hz.2 (by omega))]; rfl)
    clear hb hz NB
    go_enter Try.func34, Try.ntmps34
    go_wp2_with fail
    go_ret
    exact ⟨by rw [R.out]; rfl, Below.refl _ _⟩
set_option maxHeartbeats 4000000 in
set_option maxRecDepth 20000 in
theorem phas (l : List I12) (lv : Value) (h : IRow w l lv) (hl : l.length ≤ 1000) (hs : Srt l) (s : ByteArray) :
    Calls Try.prog 36 #[lv, .string s] w (Made (.bool (iIdx l s).isSome) w) := by
  have PF := Lib.hid (pFind w l lv h hl hs s)
  obtain ⟨ao, cap, rfl⟩ := h.shape
  clear h hs
  cases hk : iIdx l s with
  | none =>
    have E : findI l s = -1 := by unfold findI; rw [hk]
    rw [E] at PF
    clear hk E
    go_enter Try.func36, Try.ntmps36
    go_wp2_with fail
    with_reducible refine PF.out.mono ?_
    rintro e w1 ⟨rfl, hb⟩
    have B1 := Lib.hid hb
    clear hb
    go_wp2_with fail
    go_ret
    exact ⟨rfl, B1.out⟩
  | some k =>
    have E : findI l s = (k : Int) := by unfold findI; rw [hk]
    rw [E] at PF
    have k0 : (0 : Int) ≤ (k : Int) := by omega
    clear hk E
    go_enter Try.func36, Try.ntmps36
    go_wp2_with fail
    with_reducible refine PF.out.mono ?_
    rintro e w1 ⟨rfl, hb⟩
    have B1 := Lib.hid hb
    clear hb
    go_wp2_with fail
    go_ret
    exact ⟨rfl, B1.out⟩
set_option maxHeartbeats 4000000 in
set_option maxRecDepth 20000 in
theorem pholds (l : List I12) (lv : Value) (h : IRow w l lv) (hl : l.length ≤ 1000) (hs : Srt l) (p : ByteArray) :
    Calls Try.prog 37 #[lv, .string p] w (Made (.bool (decide (p = ⟨#[]⟩) || (iIdx l p).isSome)) w) := by
  have PH := Lib.hid (phas w l lv h hl hs p)
  obtain ⟨ao, cap, rfl⟩ := h.shape
  have ep := tstr_empty p
  clear h hs
  by_cases hp : p = ⟨#[]⟩
  · rw [decide_eq_true hp] at ep
    rw [decide_eq_true hp]
    have ep' : p.toList = [] := by simpa using ep
    clear hp
    go_enter Try.func37, Try.ntmps37
    go_wp2_with fail
    go_ret
    exact ⟨rfl, Below.refl _ _⟩
  · rw [decide_eq_false hp] at ep
    rw [decide_eq_false hp, Bool.false_or]
    clear hp
    go_enter Try.func37, Try.ntmps37
    go_wp2_with fail
    with_reducible refine PH.out.mono ?_
    rintro e w1 ⟨rfl, hb⟩
    have B1 := Lib.hid hb
    clear hb
    go_wp2_with fail
    go_ret
    exact ⟨rfl, B1.out⟩
end
end Go.Proofs.Ytmpakgabehplbaa
namespace Go.Proofs.Ytmpakgabehplbaa
open Go.RowKit
set_option linter.unusedVariables false
set_option linter.unusedSimpArgs false
/-- copy, of elements of any size, within memory; all is read ahead. -/
theorem run_copyN {P : Program} (w : World) (dT sT ty elem : TypeId) (i : TypeInfo) (size : Nat) (hu : P.underlying dT = some (.slice elem)) (hi : P.info? elem = some i) (hsz : i.size = size)
    (g o dLen dCap : Nat) (a : Addr) (sLen sCap : Nat) (cur : Array Value) (t : TypeId) (cs : List Value) (m : Nat) (hm : m = Nat.min sLen dLen) (hg : w.heap[g]? = some (.cells cur t (0, 0))) (hn : cs.length = m * size)
    (hsrc : ∀ j v, cs[j]? = some v → w.cell? (a.add j) = some v) (hfit : o + cs.length ≤ cur.size) (h1 : ∀ v ∈ cs, v.oneCell' = true) :
    (Builtin.copy_ #[dT, sT] ty #[.slice (some ⟨g, o, none⟩) dLen dCap, .slice (some a) sLen sCap]).run P w =
      .ok (goInt m) (w.setRow g (cur.toList.take o ++ cs ++ cur.toList.drop (o + cs.length)).toArray) := by
  have hl := run_loadCells_list (P := P) w a cs hsrc
  have hst := run_storeCells_at P g o t cs 0 cur w hg (by simpa using hfit) h1
  subst hsz
  have hn' : m * i.size = cs.length := hn.symm
  simp [Builtin.copy_, run_underlying hu, Builtin.lenOf, Builtin.firstCells, sizeOf, typeInfo, hi, ← hm, hn', hl, hst]
/-- The block of a literal of one. -/
def XRow (W : World) (B : Nat) (x : I12) (v : Value) : Prop := ∃ b, v = .slice (some ⟨b, 0, none⟩) 1 1 ∧ B ≤ b ∧ IBlk W b x
theorem XRow.below {W W' : World} {B : Nat} {x : I12} {v : Value} (h : XRow W B x v) (hb : Below W.heap.size W W') : XRow W' B x v := by
  obtain ⟨b, rfl, h1, h2⟩ := h
  exact ⟨b, rfl, h1, h2.below hb⟩
/-- Two rows in one block of twelve cells. -/
theorem lit_apart {W : World} {B b g n cap : Nat} {x : I12} {l : List I12} (hb : IBlk W b x) (ho : IOwn W B l (.slice (some ⟨g, 0, none⟩) n cap)) (hn : 0 < n) (hx : ∀ y ∈ l, y.name ≠ x.name) : b ≠ g := by
  rintro rfl
  have hl := ho.1
  rcases ho.2 with ⟨e, _⟩ | ⟨g', cap', cur, e, _, hg, hnc, _, hcs, htake⟩
  · cases e
  · simp only [Value.slice.injEq, Option.some.injEq, Addr.mk.injEq, and_true, true_and] at e
    obtain ⟨rfl, e2, rfl⟩ := e
    unfold IBlk at hb
    rw [hb] at hg
    simp only [Option.some.injEq, Obj.cells.injEq, and_true] at hg
    obtain ⟨rfl, -⟩ := hg
    cases l with
    | nil => simp at e2; omega
    | cons y r =>
      have h0 : (i12s (y :: r))[0]? = some (.string y.name) := rfl
      rw [← htake, List.getElem?_take] at h0
      rw [if_pos (by simp)] at h0
      simp at h0
      exact hx y List.mem_cons_self h0.symm
theorem append_types {P : Program} (w : World) (t tx ty e e' : TypeId) (ht : P.underlying t = some (.slice e)) (hk : P.underlying tx = some (.slice e')) (i : TypeInfo) (hi : P.info? e = some i) (b b' : Option Addr) (n c n' c' : Nat) :
    (Builtin.append_ #[t, tx] ty #[.slice b n c, .slice b' n' c']).run P w = (Builtin.append_ #[t, t] ty #[.slice b n c, .slice b' n' c']).run P w := by
  simp [Builtin.append_, run_underlying ht, run_underlying hk, sizeOf, typeInfo, hi]
/-- append of a row of another type's name. -/
theorem wpList_append_two {P : Program} (w : World) {ops : Array Oper} {rest : List Oper} {o : Oper} {a : Act} {Q : Exit → Act → World → Prop} (hgd : o.guard = none) (s x : Operand) (t tx : TypeId)
    (ho : o.op = .call { callee := .builtin .append, args := #[s, x], argTypes := #[t, tx] })
    (base : Nat) (e e' : TypeId) (i : TypeInfo) (z : Value) (size bytes : Nat) (ht : P.underlying t = some (.slice e)) (hk : P.underlying tx = some (.slice e')) (hi : P.info? e = some i) (hz : i.zero = some z)
    (hsize : i.size = size) (hby : i.bytes = bytes) (hzs : z.cells.size = size) (hsz : 0 < size)
    (v : Value) (n : Nat) (xs : List Value) (hs : a.eval s = v) (hown : w.ownsRow base e size v n xs)
    (ad : Addr) (m c : Nat) (news : List Value) (hx : a.eval x = .slice (some ad) m c) (hl : news.length = m * size) (hnews : ∀ j u, news[j]? = some u → w.cell? (ad.add j) = some u) (h1 : ∀ u ∈ news, u.oneCell' = true)
    (h63 : n + m ≤ maxLen) (hbytes : (n + m) * bytes ≤ 140737488355328) (hbase : base ≤ w.heap.size)
    (h : ∀ v' w', w'.ownsRow base e size v' (n + m) (xs ++ news) → w.grownBy w' v.ownBlock → wpList P ops Q rest (a.put o.dst v') w') : wpList P ops Q (o :: rest) a w := by
  refine wpList_plain hgd fun K hK' => ?_
  obtain ⟨v', w', hr, h2, h3, h4⟩ := run_append_own (P := P) w base t o.type e i z size bytes ht hi hz hsize hby hzs hsz v n xs hown ad m c news hl hnews h1 h63 hbytes hbase
  obtain ⟨vb, vn, vc, rfl⟩ : ∃ vb vn vc, v = .slice vb vn vc := by
    rcases hown.2 with ⟨rfl, _⟩ | ⟨g, cap, cur, rfl, _⟩ <;> exact ⟨_, _, _, rfl⟩
  rw [← append_types w t tx o.type e e' ht hk i hi] at hr
  unfold Oper.wp execOp
  simp only [ho, resolve, invoke, builtin, Sem.run_bind, Sem.run_pure, Result.andThen_ok, List.map_toArray, List.map_cons, List.map_nil, hs, hx, hr]
  exact hK' _ _ (h v' w' h2 h3)
end Go.Proofs.Ytmpakgabehplbaa
namespace Go.Proofs.Ytmpakgabehplbaa
open Go.RowKit
set_option linter.unusedVariables false
set_option linter.unusedSimpArgs false
section
variable (w : World)
set_option maxHeartbeats 8000000 in
set_option maxRecDepth 100000 in
theorem pins_end (B : Nat) (v : Value) (l : List I12) (x : I12) (xv : Value) (ho : IOwn w B l v) (hB : B ≤ w.heap.size) (hl : l.length ≤ 1000) (hx : XRow w B x xv) :
    Calls Try.prog 62 #[v, .int .i64 (l.length : Int), xv] w fun e w' => ∃ v', e = .returned v' ∧ w.grownBy w' v.ownBlock ∧ IOwn w' B (l ++ [x]) v' := by
  obtain ⟨i0, hi0, hz0, hz1, hz2⟩ := info_partsT info_item
  obtain ⟨xb, rfl, hxb, hx⟩ := hx
  have OO := Lib.hid ho
  have XS := Lib.hid (show ∀ ad, (some (⟨xb, 0, none⟩ : Addr)) = some ad → ∀ j u, (i12s [x])[j]? = some u → w.cell? (ad.add j) = some u from fun ad e j u hj => by
    obtain rfl := Option.some.inj e
    rw [Addr.add_lit, cell_of_row _ _ _ _ _ _ hx, Nat.zero_add, ← hj]
    simp [i12s, I12.cells])
  have hsh := ho.2
  rcases hsh with ⟨rfl, h0⟩ | ⟨g, cap, cur, rfl, hb, hg, hnc, hcm, hcs, htake⟩
  · obtain rfl : l = [] := List.eq_nil_of_length_eq_zero h0
    clear ho hx h0
    go_enter Try.func62, Try.ntmps62
    go_wp2_with (at_builtin; refine wpList_append_two _ rfl _ _ 66 22 rfl B 52 52 i0 _ 12 112 Try.underlying66 Try.underlying22 hi0 hz0 hz1 hz2 rfl (by decide) (.slice none 0 0) 0 (i12s []) rfl OO.out ⟨xb, 0, none⟩ 1 1 (i12s [x]) rfl (by rfl) (XS.out _ rfl) (i12s_one _) (by unfold maxLen; omega) (by omega) hB ?_)
    intro v1 w1 hown1 hg1
    have O1 := Lib.hid (show IOwn w1 B [x] v1 from hown1)
    have G1 := Lib.hid hg1
    clear hown1 hg1
    go_wp2_with fail
    go_ret
    exact ⟨_, rfl, G1.out, O1.out⟩
  · clear ho hx htake hg hcs
    go_enter Try.func62, Try.ntmps62
    go_wp2_with (at_builtin; refine wpList_append_two _ rfl _ _ 66 22 rfl B 52 52 i0 _ 12 112 Try.underlying66 Try.underlying22 hi0 hz0 hz1 hz2 rfl (by decide) (.slice (some ⟨g, 0, none⟩) l.length cap) l.length (i12s l) rfl OO.out ⟨xb, 0, none⟩ 1 1 (i12s [x]) rfl (by rfl) (XS.out _ rfl) (i12s_one _) (by unfold maxLen; omega) (by omega) hB ?_)
    all_goals
      intro v1 w1 hown1 hg1
      have O1 := Lib.hid (show IOwn w1 B (l ++ [x]) v1 by unfold IOwn; rw [i12s_app, List.length_append]; exact hown1)
      have G1 := Lib.hid hg1
      clear hown1 hg1
      go_wp2_with fail
      go_ret
      exact ⟨_, rfl, G1.out, O1.out⟩
/-- The bounds of the row behind k cells. -/
theorem take_app {l : List I12} {k : Nat} (hk : k ≤ l.length) : (i12s l).take (k * 12) = i12s (l.take k) := by
  have h := i12s_app (l.take k) (l.drop k)
  rw [List.take_append_drop] at h
  rw [h, List.take_left']
  rw [i12s_len, List.length_take]; omega
theorem drop_app {l : List I12} {k : Nat} (hk : k ≤ l.length) : (i12s l).drop (k * 12) = i12s (l.drop k) := by
  have h := i12s_app (l.take k) (l.drop k)
  rw [List.take_append_drop] at h
  rw [h, List.drop_left']
  rw [i12s_len, List.length_take]; omega
end
end Go.Proofs.Ytmpakgabehplbaa
namespace Go.Proofs.Ytmpakgabehplbaa
open Go.RowKit
set_option linter.unusedVariables false
set_option linter.unusedSimpArgs false
theorem wpList_copy_as {P : Program} (w : World) {ops : Array Oper} {rest : List Oper} {o : Oper} {a : Act} {Q : Exit → Act → World → Prop} (hgd : o.guard = none) (d s : Operand) (t t' : TypeId)
    (ho : o.op = .call { callee := .builtin .copy, args := #[d, s], argTypes := #[t, t'] }) (v u : Value) (hd : a.eval d = v) (hs : a.eval s = u) {v' : Value} {w' : World}
    (hr : (Builtin.copy_ #[t, t'] o.type #[v, u]).run P w = .ok v' w') (h : wpList P ops Q rest (a.put o.dst v') w') : wpList P ops Q (o :: rest) a w := by
  refine wpList_plain hgd fun K hK => ?_
  unfold Oper.wp execOp
  simp only [ho, resolve, invoke, builtin, Sem.run_bind, Sem.run_pure, Result.andThen_ok, List.map_toArray, List.map_cons, List.map_nil, hd, hs, hr]
  exact hK _ _ h
/-- What comes between. -/
theorem ins_grow {A X D Z : List Value} {a d : Nat} (hA : A.length = a) (hX : X.length = 12) (hD : D.length = d) (hZ : 12 + d ≤ Z.length) :
    ((((A ++ Z).take a ++ X ++ (A ++ Z).drop (a + X.length)).take (a + 12) ++ D ++ ((A ++ Z).take a ++ X ++ (A ++ Z).drop (a + X.length)).drop (a + 12 + D.length)).take (a + 12 + d) = A ++ X ++ D) ∧
    (((A ++ Z).take a ++ X ++ (A ++ Z).drop (a + X.length)).take (a + 12) ++ D ++ ((A ++ Z).take a ++ X ++ (A ++ Z).drop (a + X.length)).drop (a + 12 + D.length)).length = (A ++ Z).length := by
  subst hA
  rw [List.take_left]
  have h1 : (A ++ X ++ (A ++ Z).drop (A.length + X.length)).take (A.length + 12) = A ++ X := by
    rw [← hX, show A.length + X.length = (A ++ X).length from (List.length_append).symm, List.take_left]
  rw [h1]
  constructor
  · rw [show A.length + 12 + d = (A ++ X ++ D).length by simp only [List.length_append, hX, hD], List.take_left]
  · simp only [List.length_append, List.length_drop, hX, hD]
    omega
section
variable (w : World)
set_option maxHeartbeats 8000000 in
set_option maxRecDepth 100000 in
theorem pins_grow (B g cap : Nat) (l : List I12) (x : I12) (xv : Value) (k : Nat) (hk : k < l.length) (ho : IOwn w B l (.slice (some ⟨g, 0, none⟩) l.length cap)) (hB : B ≤ w.heap.size) (hl : l.length ≤ 1000) (hx : XRow w B x xv) (hc : cap < l.length + 1) :
    Calls Try.prog 62 #[.slice (some ⟨g, 0, none⟩) l.length cap, .int .i64 (k : Int), xv] w fun e w' => ∃ v', e = .returned v' ∧ w.grownBy w' (some g) ∧ IOwn w' B (l.take k ++ x :: l.drop k) v' := by
  obtain ⟨i0, hi0, hz0, hz1, hz2⟩ := info_partsT info_item
  obtain ⟨xb, rfl, hxb, hx⟩ := hx
  obtain ⟨hlen, hsh⟩ := ho
  rcases hsh with ⟨e, -⟩ | ⟨g', cap', cur, e, hb, hg, hnc, hcm, hcs, htake⟩
  · cases e
  simp only [Value.slice.injEq, Option.some.injEq, Addr.mk.injEq, and_true, true_and] at e
  obtain ⟨rfl, rfl⟩ := e
  obtain rfl : cap = l.length := by omega
  have GL := Lib.hid (show g < w.heap.size from (Array.getElem?_eq_some_iff.1 hg).1)
  have hold : (Builtin.firstCells i0.size k (.slice (some ⟨g, 0, none⟩) k l.length)).run Try.prog w.drew = .ok (i12s (l.take k)).toArray w.drew := by
    rw [hz1]
    exact run_firstCells_some w.drew 12 k ⟨g, 0, none⟩ k l.length (i12s (l.take k)) (by rw [i12s_len, List.length_take]; omega) (fun j v hj => by
      rw [← take_app (by omega), List.getElem?_take] at hj
      split at hj
      · rw [Addr.add_lit, Nat.zero_add]
        show w.drew.cell? _ = _
        rw [World.cell?_drew, cell_of_row w g j cur _ _ hg]
        rw [← htake, List.getElem?_take] at hj
        split at hj
        · simpa using hj
        · cases hj
      · cases hj)
  have hrz : ∀ ty, (Builtin.append_ #[66, 3] ty #[.slice (some ⟨g, 0, none⟩) k l.length, .int .i64 ((l.length : Int) + 1 - (k : Int))]).run Try.prog w =
      .ok (.slice (some ⟨w.heap.size, 0, none⟩) (l.length + 1) (grownCap w (l.length + 1) l.length 52)) (w.drew.alloc (.cells ((i12s (l.take k)).toArray ++ Builtin.zeroCells (I12.val ⟨⟨#[]⟩, ⟨#[]⟩, z3, z3, z3, 0⟩).cells (l.length + 1 - k) ++ Builtin.zeroCells (I12.val ⟨⟨#[]⟩, ⟨#[]⟩, z3, z3, z3, 0⟩).cells (grownCap w (l.length + 1) l.length 52 - (l.length + 1))) 52)) := fun ty => by
    have h := Lib.run_append_grow_zeros w 66 3 ty 52 i0 _ .i64 .i64 Try.underlying66 Try.underlying3 hi0 hz0 (some ⟨g, 0, none⟩) k l.length (i12s (l.take k)) hold (l.length + 1 - k) (by omega) (by omega) (by omega) (by omega) (by rw [hz2]; omega) (by rw [hz2, show k + (l.length + 1 - k) = l.length + 1 by omega]; exact growslice_fits (by omega) (by omega))
    rw [show k + (l.length + 1 - k) = l.length + 1 by omega] at h
    rw [show (l.length : Int) + 1 - (k : Int) = ((l.length + 1 - k : Nat) : Int) by omega]
    exact h
  have hGn : l.length + 1 ≤ grownCap w (l.length + 1) l.length 52 := grownCap_ge w _ _ _
  have hGm : grownCap w (l.length + 1) l.length 52 ≤ maxLen := grownCap_le_maxLen w (l.length + 1) l.length _ (by unfold maxLen; omega)
  generalize grownCap w (l.length + 1) l.length 52 = G at *
  obtain ⟨Z, hZ⟩ : ∃ Z : List Value, Z = (Builtin.zeroCells (I12.val ⟨⟨#[]⟩, ⟨#[]⟩, z3, z3, z3, 0⟩).cells (l.length + 1 - k)).toList ++ (Builtin.zeroCells (I12.val ⟨⟨#[]⟩, ⟨#[]⟩, z3, z3, z3, 0⟩).cells (G - (l.length + 1))).toList := ⟨_, rfl⟩
  have hZl : Z.length = (G - k) * 12 := by
    rw [hZ, List.length_append]
    show (Builtin.zeroCells _ _).size + (Builtin.zeroCells _ _).size = _
    rw [size_zeroCells, size_zeroCells]
    show (l.length + 1 - k) * 12 + (G - (l.length + 1)) * 12 = _
    omega
  have hRow : ((i12s (l.take k)).toArray ++ Builtin.zeroCells (I12.val ⟨⟨#[]⟩, ⟨#[]⟩, z3, z3, z3, 0⟩).cells (l.length + 1 - k) ++ Builtin.zeroCells (I12.val ⟨⟨#[]⟩, ⟨#[]⟩, z3, z3, z3, 0⟩).cells (G - (l.length + 1))) = (i12s (l.take k) ++ Z).toArray := by
    rw [hZ]; apply Array.ext'; simp
  rw [hRow] at hrz
  have hAl : (i12s (l.take k)).length = k * 12 := by rw [i12s_len, List.length_take]; omega
  have hDl : (i12s (l.drop k)).length = (l.length - k) * 12 := by rw [i12s_len, List.length_drop]
  have hXl : (i12s [x]).length = 12 := rfl
  obtain ⟨hfin, hfl⟩ := ins_grow (X := i12s [x]) hAl hXl hDl (by rw [hZl]; omega)
  have GL2 := Lib.hid hg
  have HX2 := Lib.hid hx
  generalize hW1 : w.drew.alloc (.cells (i12s (l.take k) ++ Z).toArray 52) = W1 at *
  have hW1h : W1.heap[w.heap.size]? = some (.cells (i12s (l.take k) ++ Z).toArray 52 (0, 0)) := by rw [← hW1]; exact heap_alloc_new w.drew _
  have hW1o : ∀ j, j < w.heap.size → W1.heap[j]? = w.heap[j]? := fun j hj => by rw [← hW1]; exact heap_alloc_old w.drew _ (by exact hj)
  clear hRow hZ hold
  have hGi : ¬ (G = k) := by omega
  have hGi1 : ¬ (G = k + 1) := by omega
  have hci : ¬ (l.length = k) := by omega
  have hGx : (l.length : Int) + 1 > (l.length : Int) := by omega
  have w1 : IntKind.i64.wrap ((l.length : Int) + 1) = (l.length : Int) + 1 := by rw [IntKind.wrap_i64]; omega
  have w2 : IntKind.i64.wrap ((l.length : Int) + 1 - (k : Int)) = (l.length : Int) + 1 - (k : Int) := by rw [IntKind.wrap_i64]; omega
  have w3 : IntKind.i64.wrap ((k : Int) + 1) = (k : Int) + 1 := by rw [IntKind.wrap_i64]; omega
  have y0 : (0 : Int) ≤ (k : Int) := by omega
  have y1 : (k : Int) ≤ (l.length : Int) := by omega
  have y2 : ¬ ((k : Int) = (l.length : Int)) := by omega
  have y3 : (0 : Int) ≤ (k : Int) + 1 := by omega
  have y4 : (k : Int) + 1 ≤ (l.length : Int) + 1 := by omega
  have y5 : ((k : Int) + 1).toNat = k + 1 := by omega
  have hG63 : G ≤ 9223372036854775807 := by unfold maxLen at hGm; omega
  have FIN := Lib.hid hfin
  have FL := Lib.hid hfl
  have hcA : ∀ ty, (Builtin.copy_ #[66, 22] ty #[.slice (some ⟨w.heap.size, k * 12, none⟩) (l.length + 1 - k) (G - k), .slice (some ⟨xb, 0, none⟩) 1 1]).run Try.prog W1 =
      .ok (goInt (1 : Nat)) (W1.setRow w.heap.size ((i12s (l.take k) ++ Z).take (k * 12) ++ i12s [x] ++ (i12s (l.take k) ++ Z).drop (k * 12 + (i12s [x]).length)).toArray) := fun ty =>
    run_copyN W1 _ _ ty 52 i0 12 Try.underlying66 hi0 hz1 w.heap.size (k * 12) _ _ ⟨xb, 0, none⟩ 1 1 (i12s (l.take k) ++ Z).toArray 52 (i12s [x]) 1 (by simp only [Nat.min_def]; split <;> omega) hW1h rfl
      (fun j v hj => by
        rw [Addr.add_lit, Nat.zero_add]
        have hbk : W1.heap[xb]? = some (.cells #[.string x.name, .string x.parent, .int .i64 x.lim.c, .int .i64 x.lim.m, .int .i64 x.lim.p, .int .i64 x.own.c, .int .i64 x.own.m, .int .i64 x.own.p, .int .i64 x.sub.c, .int .i64 x.sub.m, .int .i64 x.sub.p, .int .i64 x.ver] 52 (0, 0)) := (hW1o xb (Array.getElem?_eq_some_iff.1 hx).1).trans hx
        rw [cell_of_row _ _ _ _ _ _ hbk, ← hj]
        simp [i12s, I12.cells])
      (by rw [hXl]; simp only [List.size_toArray, List.length_append, hAl, hZl]; omega) (i12s_one _)
  obtain ⟨R2, hR2⟩ : ∃ R2 : List Value, R2 = (i12s (l.take k) ++ Z).take (k * 12) ++ i12s [x] ++ (i12s (l.take k) ++ Z).drop (k * 12 + (i12s [x]).length) := ⟨_, rfl⟩
  have hR2l : R2.length = G * 12 := by
    rw [hR2]; simp only [List.length_append, List.length_take, List.length_drop, hAl, hZl, hXl]; omega
  rw [← hR2] at hcA hfin hfl
  rw [show k * 12 + 12 = (k + 1) * 12 by omega] at hfin hfl
  obtain ⟨W2, hW2⟩ : ∃ W2, W2 = W1.setRow w.heap.size R2.toArray := ⟨_, rfl⟩
  have hW2h : W2.heap[w.heap.size]? = some (.cells R2.toArray 52 (0, 0)) := by rw [hW2]; exact setRow_heap W1 _ _ _ _ _ hW1h
  have hW2o : ∀ j, j < w.heap.size → W2.heap[j]? = w.heap[j]? := fun j hj => by rw [hW2, setRow_other _ _ _ _ (by omega)]; exact hW1o j hj
  have hW2g : w.grownBy W2 (some g) := by
    refine ⟨?_, ?_, ?_, ?_, fun j hj _ => hW2o j hj⟩
    · rw [hW2, setRow_os, ← hW1]; rfl
    · rw [hW2, setRow_tape, ← hW1]; rfl
    · rw [hW2, setRow_output, ← hW1]; rfl
    · exact Nat.le_of_lt (Array.getElem?_eq_some_iff.1 hW2h).1
  have hcB : ∀ (W : World), W.heap[w.heap.size]? = some (.cells R2.toArray 52 (0, 0)) → W.heap[g]? = w.heap[g]? → ∀ ty, (Builtin.copy_ #[66, 66] ty #[.slice (some ⟨w.heap.size, (k + 1) * 12, none⟩) (l.length - k) (G - (k + 1)), .slice (some ⟨g, k * 12, none⟩) (l.length - k) (l.length - k)]).run Try.prog W =
      .ok (goInt (l.length - k : Nat)) (W.setRow w.heap.size (R2.take ((k + 1) * 12) ++ i12s (l.drop k) ++ R2.drop ((k + 1) * 12 + (i12s (l.drop k)).length)).toArray) := fun W h1 h2 ty => by
    have := run_copyN W 66 66 ty 52 i0 12 Try.underlying66 hi0 hz1 w.heap.size ((k + 1) * 12) (l.length - k) (G - (k + 1)) ⟨g, k * 12, none⟩ (l.length - k) (l.length - k) R2.toArray 52 (i12s (l.drop k)) (l.length - k) (by simp only [Nat.min_def]; split <;> omega) h1 hDl
      (fun j v hj => by
        rw [Addr.add_lit, cell_of_row _ _ _ _ _ _ (h2.trans hg)]
        rw [← drop_app (by omega), List.getElem?_drop, ← htake, List.getElem?_take] at hj
        split at hj
        · simpa using hj
        · cases hj)
      (by rw [hDl]; simp only [List.size_toArray, hR2l]; omega) (i12s_one _)
    exact this
  rw [← hW2] at hcA
  have HCB := Lib.hid hcB
  have W2H := Lib.hid hW2h
  have W2O := Lib.hid hW2o
  have W2G := Lib.hid hW2g
  have FIN := Lib.hid hfin
  have FL := Lib.hid hfl
  have R2L := Lib.hid hR2l
  clear hx hg hlen htake hcs hfin hfl hZl hAl hDl hXl hcB hW2h hW2o hW2g hW2 hW1 hW1h hW1o hR2 hR2l
  go_enter Try.func62, Try.ntmps62
  go_wp2_with (first
    | (at_builtin; refine Lib.wpList_append_run _ rfl _ _ _ _ rfl _ _ rfl rfl _ _ (hrz _) ?_)
    | (at_builtin; refine wpList_copy_as _ rfl _ _ 66 22 rfl _ _ rfl rfl (hcA _) ?_))
  refine wp_region_mono_tail 8 (by kernel_rfl) (by kernel_rfl) (Nat.le_of_ble_eq_true (by kernel_rfl)) (by kernel_rfl) ?_
  simp only [List.map_cons, List.map_nil]
  simp only [List.take_succ_cons, List.take_zero, List.drop_succ_cons, List.drop_zero]
  repeat (first
    | (apply wpM_is
       · (intro us W hW hg K hK
          clear hg
          simp only [fillA]
          go_simp
          first
          | exact hK _ (Below.refl _ _))
       simp only [setD, List.set_cons_zero, List.set_cons_succ]))
  intro us W hW hg
  simp only [fillA]
  clear hg
  have HB := Lib.hid hW
  have KH := Lib.hid ((hW.block _ (Array.getElem?_eq_some_iff.1 W2H.out).1).trans W2H.out)
  have KG := Lib.hid ((hW.block _ (Nat.lt_trans GL.out (Array.getElem?_eq_some_iff.1 W2H.out).1)).trans (W2O.out g GL.out))
  have RB := HCB.out W KH.out KG.out
  clear hW
  go_wp2_with (at_builtin; refine wpList_copy_as _ rfl _ _ 66 66 rfl _ _ rfl rfl (RB _) ?_)
  go_ret
  refine ⟨_, rfl, ?_, ?_⟩
  · have h1 := W2G.out
    have h2 := HB.out
    have h3 : W2.heap.size ≤ W.heap.size := h2.size
    have h4 : w.heap.size < W2.heap.size := (Array.getElem?_eq_some_iff.1 W2H.out).1
    refine ⟨?_, ?_, ?_, ?_, fun j hj hr => ?_⟩
    · rw [setRow_os]; exact h2.os.trans h1.os
    · rw [setRow_tape]; exact h2.tape.trans h1.tape
    · rw [setRow_output]; exact h2.output.trans h1.output
    · rw [setRow_size]; omega
    · rw [setRow_other _ _ _ _ (by omega)]
      exact (h2.block j (by omega)).trans (h1.block j hj hr)
  · have e1 : (l.take k ++ x :: l.drop k).length = l.length + 1 := by simp only [List.length_append, List.length_cons, List.length_take, List.length_drop]; omega
    have e2 : i12s (l.take k ++ x :: l.drop k) = i12s (l.take k) ++ i12s [x] ++ i12s (l.drop k) := by
      rw [show l.take k ++ x :: l.drop k = l.take k ++ [x] ++ l.drop k by simp, i12s_app, i12s_app]
    unfold IOwn
    rw [e1, e2]
    refine ⟨?_, .inr ⟨w.heap.size, G, _, rfl, hB, setRow_heap W _ _ _ _ _ KH.out, hGn, hGm, ?_, ?_⟩⟩
    · simp only [List.length_append, i12s_len, List.length_take, List.length_drop, List.length_cons, List.length_nil]; omega
    · rw [List.size_toArray]
      simp only [List.length_append, i12s_len, List.length_take, List.length_drop, R2L.out]
      omega
    · rw [← FIN.out]
      congr 1
      · omega
      · simp
end
end Go.Proofs.Ytmpakgabehplbaa
namespace Go.Proofs.Ytmpakgabehplbaa
open Go.RowKit
set_option linter.unusedVariables false
set_option linter.unusedSimpArgs false
theorem ins_shift {C X D : List Value} {a d : Nat} (hX : X.length = 12) (hD : D.length = d) (hC : a + 12 + d ≤ C.length) :
    (((C.take (a + 12) ++ D ++ C.drop (a + 12 + D.length)).take a ++ X ++ (C.take (a + 12) ++ D ++ C.drop (a + 12 + D.length)).drop (a + X.length)).take (a + 12 + d) = C.take a ++ X ++ D) ∧
    ((C.take (a + 12) ++ D ++ C.drop (a + 12 + D.length)).take a ++ X ++ (C.take (a + 12) ++ D ++ C.drop (a + 12 + D.length)).drop (a + X.length)).length = C.length := by
  have h0 : (C.take (a + 12)).length = a + 12 := by rw [List.length_take]; omega
  have h1 : (C.take (a + 12) ++ D ++ C.drop (a + 12 + D.length)).take a = C.take a := by
    rw [List.append_assoc, List.take_append_of_le_length (by omega), List.take_take]
    congr 1; omega
  have h2 : (C.take (a + 12) ++ D ++ C.drop (a + 12 + D.length)).drop (a + X.length) = D ++ C.drop (a + 12 + D.length) := by
    rw [List.append_assoc, hX]; exact List.drop_left' h0
  rw [h1, h2]
  have h3 : (C.take a).length = a := by rw [List.length_take]; omega
  constructor
  · rw [← List.append_assoc, show a + 12 + d = (C.take a ++ X ++ D).length by simp only [List.length_append, hX, hD, h3], List.take_left]
  · simp only [List.length_append, List.length_drop, hX, hD, h3]
    omega
section
variable (w : World)
set_option maxHeartbeats 8000000 in
set_option maxRecDepth 100000 in
theorem pins_shift (B g cap : Nat) (l : List I12) (x : I12) (xv : Value) (k : Nat) (hk : k < l.length) (ho : IOwn w B l (.slice (some ⟨g, 0, none⟩) l.length cap)) (hl : l.length ≤ 1000) (hx : XRow w B x xv) (hc : l.length + 1 ≤ cap) (hne : ∀ y ∈ l, y.name ≠ x.name) :
    Calls Try.prog 62 #[.slice (some ⟨g, 0, none⟩) l.length cap, .int .i64 (k : Int), xv] w fun e w' => ∃ v', e = .returned v' ∧ w.grownBy w' (some g) ∧ IOwn w' B (l.take k ++ x :: l.drop k) v' := by
  obtain ⟨i0, hi0, hz0, hz1, hz2⟩ := info_partsT info_item
  obtain ⟨xb, rfl, hxb, hx⟩ := hx
  have apart : xb ≠ g := lit_apart hx ho (by omega) hne
  obtain ⟨hlen, hsh⟩ := ho
  rcases hsh with ⟨e, -⟩ | ⟨g', cap', cur, e, hb, hg, hnc, hcm, hcs, htake⟩
  · cases e
  simp only [Value.slice.injEq, Option.some.injEq, Addr.mk.injEq, and_true, true_and] at e
  obtain ⟨rfl, rfl⟩ := e
  have hbx : w.heap[xb]? = some (.cells #[.string x.name, .string x.parent, .int .i64 x.lim.c, .int .i64 x.lim.m, .int .i64 x.lim.p, .int .i64 x.own.c, .int .i64 x.own.m, .int .i64 x.own.p, .int .i64 x.sub.c, .int .i64 x.sub.m, .int .i64 x.sub.p, .int .i64 x.ver] 52 (0, 0)) := hx
  have hov : ∀ lb cb, (callFunc 75 #[.slice (some ⟨xb, 0, none⟩) 1 1, .slice (some ⟨g, (k + 1) * 12, none⟩) lb cb]).run Try.prog w = .ok (.value (.bool false)) w := fun lb cb => by
    rw [run_callFunc_extern Try.func75 (by kernel_rfl) (by kernel_rfl) (by kernel_rfl) (e := Extern.SlicesOverlaps.overlaps #[22, 22] #[4]) (by kernel_rfl),
      Lib.run_overlaps_apart w 22 4 52 Try.underlying22 12 (fun W => by simp [sizeOf, typeInfo, hi0, hz1]) ⟨xb, 0, none⟩ ⟨g, (k + 1) * 12, none⟩ 1 1 lb cb apart 52 52 12 (cap * 12) (by simp [World.shape?, hbx]) (by simp [World.shape?, hg, hcs]) (by omega) (by simp [World.frozen?, hbx]) (by simp [World.frozen?, hbx])]
    rfl
  have hAl : (i12s (l.take k)).length = k * 12 := by rw [i12s_len, List.length_take]; omega
  have hDl : (i12s (l.drop k)).length = (l.length - k) * 12 := by rw [i12s_len, List.length_drop]
  have hXl : (i12s [x]).length = 12 := rfl
  have hcl : cur.toList.length = cap * 12 := by rw [Array.length_toList]; exact hcs
  have hcA : cur.toList.take (k * 12) = i12s (l.take k) := by
    rw [← take_app (by omega), ← htake, List.take_take]
    congr 1; omega
  obtain ⟨hfin, hfl⟩ := ins_shift (C := cur.toList) (X := i12s [x]) (D := i12s (l.drop k)) (a := k * 12) hXl hDl (by omega)
  rw [show k * 12 + 12 = (k + 1) * 12 by omega] at hfin hfl
  have hc1 : ∀ (W : World), W.heap[g]? = some (.cells cur 52 (0, 0)) → ∀ ty, (Builtin.copy_ #[66, 66] ty #[.slice (some ⟨g, (k + 1) * 12, none⟩) (l.length - k) (cap - (k + 1)), .slice (some ⟨g, k * 12, none⟩) (l.length + 1 - k) (cap - k)]).run Try.prog W =
      .ok (goInt (l.length - k : Nat)) (W.setRow g (cur.toList.take ((k + 1) * 12) ++ i12s (l.drop k) ++ cur.toList.drop ((k + 1) * 12 + (i12s (l.drop k)).length)).toArray) := fun W h1 ty =>
    run_copyN W 66 66 ty 52 i0 12 Try.underlying66 hi0 hz1 g ((k + 1) * 12) (l.length - k) (cap - (k + 1)) ⟨g, k * 12, none⟩ (l.length + 1 - k) (cap - k) cur 52 (i12s (l.drop k)) (l.length - k) (by simp only [Nat.min_def]; split <;> omega) h1 hDl
      (fun j v hj => by
        rw [Addr.add_lit, cell_of_row _ _ _ _ _ _ h1]
        rw [← drop_app (by omega), List.getElem?_drop, ← htake, List.getElem?_take] at hj
        split at hj
        · simpa using hj
        · cases hj)
      (by rw [hDl, hcs]; omega) (i12s_one _)
  obtain ⟨R1, hR1⟩ : ∃ R1 : List Value, R1 = cur.toList.take ((k + 1) * 12) ++ i12s (l.drop k) ++ cur.toList.drop ((k + 1) * 12 + (i12s (l.drop k)).length) := ⟨_, rfl⟩
  have hR1l : R1.length = cap * 12 := by
    rw [hR1]; simp only [List.length_append, List.length_take, List.length_drop, hcl, hDl]; omega
  rw [← hR1] at hc1 hfin hfl
  have hc2 : ∀ (W : World), W.heap[g]? = some (.cells R1.toArray 52 (0, 0)) → W.heap[xb]? = w.heap[xb]? → ∀ ty, (Builtin.copy_ #[66, 22] ty #[.slice (some ⟨g, k * 12, none⟩) (l.length + 1 - k) (cap - k), .slice (some ⟨xb, 0, none⟩) 1 1]).run Try.prog W =
      .ok (goInt (1 : Nat)) (W.setRow g (R1.take (k * 12) ++ i12s [x] ++ R1.drop (k * 12 + (i12s [x]).length)).toArray) := fun W h1 h2 ty =>
    run_copyN W _ _ ty 52 i0 12 Try.underlying66 hi0 hz1 g (k * 12) _ _ ⟨xb, 0, none⟩ 1 1 R1.toArray 52 (i12s [x]) 1 (by simp only [Nat.min_def]; split <;> omega) h1 rfl
      (fun j v hj => by
        rw [Addr.add_lit, Nat.zero_add, cell_of_row _ _ _ _ _ _ (h2.trans hbx), ← hj]
        simp [i12s, I12.cells])
      (by rw [hXl]; simp only [List.size_toArray, hR1l]; omega) (i12s_one _)
  have HC1 := Lib.hid hc1
  have HC2 := Lib.hid hc2
  have HG := Lib.hid hg
  have FIN := Lib.hid hfin
  have FL := Lib.hid hfl
  have R1L := Lib.hid hR1l
  have CA := Lib.hid hcA
  have HX := Lib.hid (show xb < w.heap.size from (Array.getElem?_eq_some_iff.1 hbx).1)
  have HB := Lib.hid hb
  have HM := Lib.hid hcm
  have HC := Lib.hid hc
  have AP := Lib.hid apart
  have hci : ¬ (cap = k) := by omega
  have hci1 : ¬ (cap = k + 1) := by omega
  have hli : ¬ (l.length = k) := by omega
  have c63 : cap ≤ 9223372036854775807 := by unfold maxLen at hcm; omega
  have nc : l.length ≤ cap := by omega
  have hGx : ¬ ((l.length : Int) + 1 > (cap : Int)) := by omega
  have hGy : (l.length : Int) + 1 ≤ (cap : Int) := by omega
  have w1 : IntKind.i64.wrap ((l.length : Int) + 1) = (l.length : Int) + 1 := by rw [IntKind.wrap_i64]; omega
  have w3 : IntKind.i64.wrap ((k : Int) + 1) = (k : Int) + 1 := by rw [IntKind.wrap_i64]; omega
  have y0 : (0 : Int) ≤ (k : Int) := by omega
  have y1 : (k : Int) ≤ (l.length : Int) := by omega
  have y2 : ¬ ((k : Int) = (l.length : Int)) := by omega
  have y3 : (0 : Int) ≤ (k : Int) + 1 := by omega
  have y4 : (k : Int) + 1 ≤ (l.length : Int) + 1 := by omega
  have y5 : ((k : Int) + 1).toNat = k + 1 := by omega
  have y6 : ((l.length : Int) + 1).toNat = l.length + 1 := by omega
  have y7 : (k : Int) ≤ (l.length : Int) + 1 := by omega
  clear hx hg hlen htake hcs hfin hfl hAl hDl hXl hR1 hR1l hcl hcA hc1 hc2 hbx hb hcm hc apart hnc
  go_enter Try.func62, Try.ntmps62
  go_wp2_with (simp only [hov])
  refine wp_region_mono_tail 8 (by kernel_rfl) (by kernel_rfl) (Nat.le_of_ble_eq_true (by kernel_rfl)) (by kernel_rfl) ?_
  simp only [List.map_cons, List.map_nil]
  simp only [List.take_succ_cons, List.take_zero, List.drop_succ_cons, List.drop_zero]
  repeat (first
    | (apply wpM_is
       · (intro us W hW hg K hK
          clear hg
          simp only [fillA]
          go_simp
          first
          | exact hK _ (Below.refl _ _))
       simp only [setD, List.set_cons_zero, List.set_cons_succ]))
  intro us W hW hg
  simp only [fillA]
  clear hg
  have HW := Lib.hid hW
  have KH := Lib.hid ((hW.block _ (Array.getElem?_eq_some_iff.1 HG.out).1).trans HG.out)
  have KX := Lib.hid (hW.block xb HX.out)
  have RA := HC1.out W KH.out
  clear hW
  obtain ⟨W1, hW1⟩ : ∃ W1, W1 = W.setRow g R1.toArray := ⟨_, rfl⟩
  have KH1 := Lib.hid (show W1.heap[g]? = some (.cells R1.toArray 52 (0, 0)) by rw [hW1]; exact setRow_heap W _ _ _ _ _ KH.out)
  have KX1 := Lib.hid (show W1.heap[xb]? = w.heap[xb]? by rw [hW1, setRow_other _ _ _ _ AP.out]; exact KX.out)
  have E1 := Lib.hid hW1
  rw [← hW1] at RA
  have RB := HC2.out W1 KH1.out KX1.out
  clear hW1
  go_wp2_with (first
    | (at_builtin; refine wpList_copy_as _ rfl _ _ 66 66 rfl _ _ rfl rfl (RA _) ?_)
    | (at_builtin; refine wpList_copy_as _ rfl _ _ 66 22 rfl _ _ rfl rfl (RB _) ?_))
  go_ret
  refine ⟨_, rfl, ?_, ?_⟩
  · have h2 := HW.out
    have h3 : w.heap.size ≤ W.heap.size := h2.size
    refine ⟨?_, ?_, ?_, ?_, fun j hj hr => ?_⟩
    · rw [setRow_os, E1.out, setRow_os]; exact h2.os
    · rw [setRow_tape, E1.out, setRow_tape]; exact h2.tape
    · rw [setRow_output, E1.out, setRow_output]; exact h2.output
    · rw [setRow_size, E1.out, setRow_size]; omega
    · have hjg : j ≠ g := fun e => hr (by rw [e])
      rw [setRow_other _ _ _ _ hjg, E1.out, setRow_other _ _ _ _ hjg]
      exact h2.block j hj
  · have e1 : (l.take k ++ x :: l.drop k).length = l.length + 1 := by simp only [List.length_append, List.length_cons, List.length_take, List.length_drop]; omega
    have e2 : i12s (l.take k ++ x :: l.drop k) = i12s (l.take k) ++ i12s [x] ++ i12s (l.drop k) := by
      rw [show l.take k ++ x :: l.drop k = l.take k ++ [x] ++ l.drop k by simp, i12s_app, i12s_app]
    unfold IOwn
    rw [e1, e2]
    refine ⟨?_, .inr ⟨g, cap, _, rfl, HB.out, setRow_heap W1 _ _ _ _ _ KH1.out, HC.out, HM.out, ?_, ?_⟩⟩
    · simp only [List.length_append, i12s_len, List.length_take, List.length_drop, List.length_cons, List.length_nil]; omega
    · rw [List.size_toArray]
      have hX1 : (i12s [x]).length = 12 := rfl
      have hc := HC.out
      simp only [List.length_append, List.length_take, List.length_drop, R1L.out, hX1]
      omega
    · rw [← CA.out, ← FIN.out]
      congr 1
      · omega
      · simp
set_option maxHeartbeats 8000000 in
set_option maxRecDepth 100000 in
/-- Something comes in in its place. -/
theorem pinsert (B : Nat) (v : Value) (l : List I12) (x : I12) (xv : Value) (k : Nat) (hk : k ≤ l.length) (ho : IOwn w B l v) (hB : B ≤ w.heap.size) (hl : l.length ≤ 1000) (hx : XRow w B x xv) (hne : ∀ y ∈ l, y.name ≠ x.name) :
    Calls Try.prog 62 #[v, .int .i64 (k : Int), xv] w fun e w' => ∃ v', e = .returned v' ∧ w.grownBy w' v.ownBlock ∧ IOwn w' B (l.take k ++ x :: l.drop k) v' := by
  by_cases e : k = l.length
  · subst e
    rw [List.take_length, List.drop_length]
    exact pins_end w B v l x xv ho hB hl hx
  · have hk' : k < l.length := by omega
    rcases ho.2 with ⟨rfl, h0⟩ | ⟨g, cap, cur, rfl, -⟩
    · omega
    · by_cases hc : cap < l.length + 1
      · exact pins_grow w B g cap l x xv k hk' ho hB hl hx hc
      · exact pins_shift w B g cap l x xv k hk' ho hl hx (by omega) hne
end
end Go.Proofs.Ytmpakgabehplbaa
