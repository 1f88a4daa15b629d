/- Declared trees by numbers: the law of WantTop. -/
import Derived.Test.YtmiadhcmhnjmfaaWnN
import Derived.Test.YtmiadhcmhnjmfaaWnG
import Derived.Deep.DeepCutAuto
namespace Go.Proofs.Ytmiadhcmhnjmfaa
open Go.RowKit
set_option linter.unusedVariables false
set_option linter.unusedSimpArgs false
theorem isEmpty_iff (s : ByteArray) : s.toList.isEmpty = true ↔ s = ⟨#[]⟩ := by
  rw [Lib.toList_data]
  cases s with
  | mk d => cases d with
    | mk l => cases l <;> simp
def UpTo (t : List W5) (s : ByteArray) (i k : Nat) : Prop := s = ⟨#[]⟩ ∨ ∃ (a : Nat) (y : W5), a < k ∧ a < i ∧ t[a]? = some y ∧ y.name = s
theorem up_start (t : List W5) (s : ByteArray) (i : Nat) : s = ⟨#[]⟩ ↔ UpTo t s i 0 := ⟨Or.inl, fun h => h.elim id (fun ⟨a, y, h, _⟩ => absurd h (Nat.not_lt_zero a))⟩
theorem up_step {t : List W5} {s : ByteArray} {i k : Nat} {b : Bool} {y : W5} (h : b = true ↔ UpTo t s i k) (hy : t[k]? = some y) : (b || (decide (k < i) && decide (y.name = s))) = true ↔ UpTo t s i (k + 1) := by
  rw [Bool.or_eq_true, Bool.and_eq_true, decide_eq_true_eq, decide_eq_true_eq, h]
  constructor
  · rintro ((h | ⟨a, z, h1, h2, h3, h4⟩) | ⟨h1, h2⟩)
    · exact .inl h
    · exact .inr ⟨a, z, by omega, h2, h3, h4⟩
    · exact .inr ⟨k, y, by omega, h1, hy, h2⟩
  · rintro (h | ⟨a, z, h1, h2, h3, h4⟩)
    · exact .inl (.inl h)
    · by_cases e : a = k
      · subst e
        rw [hy] at h3
        obtain rfl := Option.some.inj h3
        exact .inr ⟨h2, h4⟩
      · exact .inl (.inr ⟨a, z, by omega, h2, h3, h4⟩)
theorem toL_ne {a b : ByteArray} (h : a ≠ b) : ¬ a.toList = b.toList := fun e => h (by rw [Lib.toList_data, Lib.toList_data] at e; exact ByteArray.ext (Array.ext' e))
theorem small_wrap (n : Nat) (h : n ≤ 1000) : wrap64 (n : Int) = (n : Int) ∧ IntKind.i64.wrap (n : Int) = (n : Int) := by
  refine ⟨by unfold wrap64; omega, by rw [IntKind.wrap_i64]; omega⟩
theorem prev_facts (i L : Nat) (h : 0 < i) (hL : i < L) (hb : L ≤ 24) : ∃ n : Nat, i - 1 = n ∧ (i : Int) - 1 = (n : Int) ∧ (n : Int) < (L : Int) ∧ (0 : Int) ≤ (n : Int) ∧ (0 : Int) < (i : Int) ∧ wrap64 (n : Int) = (n : Int) ∧ IntKind.i64.wrap (n : Int) = (n : Int) :=
  ⟨i - 1, rfl, by omega, by omega, by omega, by omega, (small_wrap _ (by omega)).1, (small_wrap _ (by omega)).2⟩
theorem next_num (i : Nat) (h : i ≤ 24) : Value.int .i64 (wrap64 ((i : Int) + 1)) = .int .i64 ((i + 1 : Nat) : Int) := by
  have : wrap64 ((i : Int) + 1) = ((i + 1 : Nat) : Int) := by unfold wrap64; omega
  rw [this]
theorem next_less {L i m : Nat} (h : i < L) (hm : L - i ≤ m) : L - (i + 1) < m := by omega
section
variable (w : World)
set_option maxHeartbeats 100000000 in
set_option maxRecDepth 100000 in
theorem law_wanttop (CK : CkP) (DP : DpP) (TP : TpP) (ns : List Int) (nv : Value) (h : NumsRd .u8 w nv ns) (hr : ∀ x ∈ ns, 0 ≤ x ∧ x ≤ 255) (hl : ns.length ≤ maxLen) :
    Calls Try.prog 5 #[nv] w (Made (.bool true) w) := by
  have H := Lib.hid h
  have HR := Lib.hid hr
  have AW := Lib.hid (fun W => law11_awake W CK DP TP)
  unfold maxLen at hl
  obtain ⟨ao, cap, rfl, _⟩ := h
  clear hr
  by_cases hb : 60 < ns.length
  · have hb' : (60 : Int) < (ns.length : Int) := by omega
    go_enter Try.func5, Try.ntmps5
    go_wp2_with fail
    with_reducible refine (AW.out _).mono ?_
    rintro e w2 ⟨rfl, hb2⟩
    go_wp2_with fail
    go_ret
    exact ⟨rfl, hb2⟩
  · have hb' : ¬ (60 : Int) < (ns.length : Int) := by omega
    have MK := Lib.hid (lmakeW w ns _ false H.out HR.out (by omega))
    have hc24 : cntM ns ≤ 24 := by unfold cntM; omega
    have HC := Lib.hid hc24
    have LN := Lib.hid (makeM_len ns false (cntM ns)).1
    have FT := Lib.hid (make_fit ns false hc24)
    have SZ := Lib.hid (make_size ns false (cntM ns))
    have GM := Lib.hid (makeM_good ns false (cntM ns))
    clear hc24
    go_enter Try.func5, Try.ntmps5
    go_wp2_with fail
    with_reducible refine MK.out.mono ?_
    rintro e w1 ⟨v1, rfl, hb1, ho1⟩
    have B1 := Lib.hid hb1
    have R1 := Lib.hid (wrow_of_own ho1)
    clear hb1 ho1 H HR MK
    generalize (makeM ns false (cntM ns)).1 = l at *
    have hlen : l.length ≤ 24 := by rw [LN.out]; exact HC.out
    clear LN HC
    obtain ⟨lo, lc, rfl⟩ := R1.out.shape
    have DD := Lib.hid (fun W (hW : Below w1.heap.size w1 W) (s : ByteArray) (hs : s.size ≤ 1000000) => DP W l _ s (R1.out.below hW) SZ.out hs FT.out)
    have TT := Lib.hid (TP w1 l _ R1.out SZ.out FT.out)
    go_wp2_with fail
    with_reducible refine TT.out.mono ?_
    rintro e w2 ⟨v2, rfl, hb2, ho2⟩
    have B2 := Lib.hid hb2
    have R2 := Lib.hid (wrow_of_own ho2)
    have R1a := Lib.hid (R1.out.below hb2)
    have TL := Lib.hid (top_len l)
    have TA := Lib.hid (fun (i : Nat) (u : W5) (hu : (topL l)[i]? = some u) => top_at GM.out hlen hu)
    have TZ := Lib.hid (show ∀ u ∈ topL l, u.name.size ≤ 1000000 ∧ u.parent.size ≤ 1000000 from fun u hu => SZ.out u ((top_mem GM.out hlen u).1 hu))
    have GI := Lib.hid (show ∀ (j k : Nat) (x u : W5), l[j]? = some x → l[k]? = some u → j ≠ k → x.name ≠ u.name from fun j k x u hx hu hne e => by
      have h1 := GM.out.name j x hx
      have h2 := GM.out.name k u hu
      rw [h1, h2] at e
      have := nmM_inj (by have := (List.getElem?_eq_some_iff.1 hx).1; omega) (by have := (List.getElem?_eq_some_iff.1 hu).1; omega) e
      exact hne this)
    have TM := Lib.hid (fun (u : W5) (hu : u ∈ topL l) => (top_mem GM.out hlen u).1 hu)
    clear hb2 ho2 TT R1 GM FT SZ hb hb' hl
    obtain ⟨tao, tc, rfl⟩ := R2.out.shape
    generalize topL l = t at *
    rw [TL.out]
    go_wp2_with fail
    obtain ⟨tao', tc', e', _, _, hT⟩ := R2.out
    simp only [Value.slice.injEq] at e'
    obtain ⟨rfl, _, rfl⟩ := e'
    have HT := Lib.hid hT
    obtain ⟨lo', lc', e', _, _, hLr⟩ := R1a.out
    simp only [Value.slice.injEq] at e'
    obtain ⟨rfl, _, rfl⟩ := e'
    have HL := Lib.hid hLr
    clear hT hLr
    go_loopg [5] l.length (fun m iv wr => ∃ i : Nat, iv = .int .i64 i ∧ l.length - i ≤ m ∧ i ≤ l.length ∧ Below w2.heap.size w2 wr)
    case atStart => exact ⟨0, rfl, Nat.le_refl _, Nat.zero_le _, Below.refl _ _⟩
    case round =>
      obtain ⟨i, rfl, hm, hi, hb⟩ := hrel
      have HM := Lib.hid hm
      have BR := Lib.hid hb
      clear hm hb
      by_cases hlt : i < l.length
      · obtain ⟨u, hu⟩ : ∃ u, t[i]? = some u := ⟨_, List.getElem?_eq_getElem (by rw [TL.out]; exact hlt)⟩
        obtain ⟨⟨k0, hk0, hk1⟩, hpar, hord⟩ := TA.out i u hu
        have K1 := Lib.hid hk1
        have PA := Lib.hid hpar
        have OD := Lib.hid hord
        obtain ⟨tg, tb, rfl, hat⟩ := HT.out i u hu
        have KT := Lib.hid (hat.below BR.out)
        obtain ⟨q0, q1, q2, q3, q4⟩ := KT.out
        have HU := Lib.hid hu
        have hiI : (i : Int) < (l.length : Int) := by omega
        have hi24 : i ≤ 24 := by omega
        have NF := Lib.hid (fun h => prev_facts i l.length h hlt hlen)
        have MF := Lib.hid (next_less hlt HM.out)
        clear hk1 hpar hord hat hu
        go_upto_region 10 with fail
        refine wp_region_mono (by kernel_rfl) (by kernel_rfl) ?_
        simp only [List.map_cons, List.map_nil]
        repeat (first
          | (apply wpM_is
             · (intro us W hW hg K hK
                clear hg
                have c0 := hold hW q0
                have c1 := hold hW q1
                have c2 := hold hW q2
                have c3 := hold hW q3
                have c4 := hold hW q4
                simp only [fillA]
                go_simp
                first
                | exact hK _ (Below.refl _ _))
             simp only [setD, List.set_cons_zero, List.set_cons_succ]))
        intro us W hW hg
        simp only [fillA]
        clear hg
        obtain ⟨pe, hpe⟩ : ∃ pe, u.parent.toList.isEmpty = pe := ⟨_, rfl⟩
        rw [hpe]
        have PE := Lib.hid (show pe = true ↔ u.parent = ⟨#[]⟩ by rw [← hpe, isEmpty_iff])
        have BW := Lib.hid (below_tr BR.out hW)
        replace q0 := hold hW q0
        replace q1 := hold hW q1
        replace q2 := hold hW q2
        replace q3 := hold hW q3
        replace q4 := hold hW q4
        clear hpe hW
        go_wp2_with fail
        go_loopg [6, 7, 8] l.length (fun m nv upv kv ws => ∃ (k : Nat) (b : Bool) (cn : Int), kv = .int .i64 k ∧ nv = .int .i64 cn ∧ Hid (cn = if k0 < k then 1 else 0) ∧ upv = .bool b ∧ Below W.heap.size W ws ∧ l.length - k ≤ m ∧ k ≤ l.length ∧ Hid (b = true ↔ UpTo t u.parent i k))
        case atStart => exact ⟨0, pe, 0, rfl, rfl, Lib.hid rfl, rfl, Below.refl _ _, Nat.le_refl _, Nat.zero_le _, Lib.hid (PE.out.trans (up_start _ _ _))⟩
        case round =>
          obtain ⟨k, b, cn, rfl, rfl, CNT, rfl, hbi, hm, hk, UB⟩ := hrel
          have HM2 := Lib.hid hm
          have BI := Lib.hid hbi
          have BWi := Lib.hid (below_tr BW.out hbi)
          have hk24 : k ≤ 24 := by omega
          have MF2 := Lib.hid (fun hkl : k < l.length => next_less hkl hm)
          clear hm hbi
          by_cases hkl : k < l.length
          · obtain ⟨x, hx⟩ : ∃ x, l[k]? = some x := ⟨_, List.getElem?_eq_getElem hkl⟩
            obtain ⟨y, hy⟩ : ∃ y, t[k]? = some y := ⟨_, List.getElem?_eq_getElem (by rw [TL.out]; exact hkl)⟩
            have XU := Lib.hid (K1.out k x hx)
            obtain ⟨lg, lb, rfl, hat⟩ := HL.out k x hx
            obtain ⟨p0, p1, p2, p3, p4⟩ := (Lib.hid (hat.below BWi.out)).out
            obtain ⟨tg', tb', e', hat2⟩ := HT.out k y hy
            simp only [Option.some.injEq, Addr.mk.injEq, and_true] at e'
            obtain ⟨rfl, rfl⟩ := e'
            obtain ⟨r0, r1, r2, r3, r4⟩ := (Lib.hid (hat2.below BWi.out)).out
            replace q0 := hold BI.out q0
            replace q1 := hold BI.out q1
            replace q2 := hold BI.out q2
            replace q3 := hold BI.out q3
            replace q4 := hold BI.out q4
            have HX := Lib.hid hx
            have HY := Lib.hid hy
            have hkI : (k : Int) < (l.length : Int) := by omega
            clear hx hy hat hat2 r1 r2 r3 r4
            obtain ⟨ej, hej⟩ : ∃ ej : Bool, ej = decide (k = k0) := ⟨_, rfl⟩
            replace hej := Lib.hid hej
            go_upto_region 14 with fail
            go_cut [49] (fun s wx => s = .bool ej ∧ Below wr.heap.size wr wx)
            case first =>
              by_cases hkk : k = k0
              · obtain rfl : x = u := XU.out.2 hkk
                have e1 : ej = true := by rw [hej.out]; simpa using hkk
                have HKK := Lib.hid hkk
                clear hkk
                refine wp_region_mono (by kernel_rfl) (by kernel_rfl) ?_
                simp only [List.map_cons, List.map_nil]
                repeat (first
                  | (apply wpM_is
                     · (intro us W hW hg K hK
                        clear hg
                        have c0 := hold hW p0
                        have c1 := hold hW p1
                        have c2 := hold hW p2
                        have c3 := hold hW p3
                        have c4 := hold hW p4
                        have d0 := hold hW q0
                        have d1 := hold hW q1
                        have d2 := hold hW q2
                        have d3 := hold hW q3
                        have d4 := hold hW q4
                        simp only [fillA]
                        go_simp
                        first
                        | exact hK _ (Below.refl _ _))
                     simp only [setD, List.set_cons_zero, List.set_cons_succ]))
                intro us W hW hg
                simp only [fillA]
                clear hg
                go_wp2_with fail
                go_meet
                case rel => exact ⟨by rw [e1], hW⟩
              · have hne : x.name ≠ u.name := by
                  have hu' : l[k0]? = some u := by
                    have := K1.out k0 _ (List.getElem?_eq_getElem hk0)
                    rw [List.getElem?_eq_getElem hk0, this.2 rfl]
                  exact GI.out k k0 x u HX.out hu' hkk
                have e1 : ej = false := by rw [hej.out]; simpa using hkk
                have hne2 := toL_ne hne
                clear hne
                refine wp_region_mono (by kernel_rfl) (by kernel_rfl) ?_
                simp only [List.map_cons, List.map_nil]
                repeat (first
                  | (apply wpM_is
                     · (intro us W hW hg K hK
                        clear hg
                        have c0 := hold hW p0
                        have c1 := hold hW p1
                        have c2 := hold hW p2
                        have c3 := hold hW p3
                        have c4 := hold hW p4
                        have d0 := hold hW q0
                        have d1 := hold hW q1
                        have d2 := hold hW q2
                        have d3 := hold hW q3
                        have d4 := hold hW q4
                        simp only [fillA]
                        go_simp
                        first
                        | exact hK _ (Below.refl _ _))
                     simp only [setD, List.set_cons_zero, List.set_cons_succ]))
                intro us W hW hg
                simp only [fillA]
                clear hg
                go_wp2_with fail
                go_meet
                case rel => exact ⟨by rw [e1], hW⟩
            case rest =>
            obtain ⟨rfl, hbx⟩ := hcut
            have BJ := Lib.hid (below_tr BI.out hbx)
            replace q1 := hold hbx q1
            replace r0 := hold hbx r0
            clear p0 p1 p2 p3 p4 q0 q2 q3 q4 hbx
            generalize wc = wj at *
            go_upto_if 49 with fail
            obtain ⟨c2, hc2⟩ : ∃ c2 : Int, c2 = if k0 < k + 1 then 1 else 0 := ⟨_, rfl⟩
            have CNT2 := Lib.hid hc2
            clear hc2
            go_cut [6] (fun s wx => s = .int .i64 c2 ∧ wx = wj)
            case first =>
              by_cases hkk : k = k0
              · have e1 : ej = true := by rw [hej.out]; simpa using hkk
                subst e1
                have hcn : cn = 0 := by rw [CNT.out, if_neg (by omega)]
                have hc2 : c2 = 1 := by rw [CNT2.out, if_pos (by omega)]
                subst hcn hc2
                clear hkk
                go_wp2_with fail
                go_meet
                case rel => exact ⟨rfl, rfl⟩
              · have e1 : ej = false := by rw [hej.out]; simpa using hkk
                subst e1
                have hc2 : c2 = cn := by
                  rw [CNT.out, CNT2.out]
                  by_cases h : k0 < k
                  · rw [if_pos h, if_pos (by omega)]
                  · rw [if_neg h, if_neg (by omega)]
                subst hc2
                clear hkk
                go_wp2_with fail
                go_meet
                case rel => exact ⟨rfl, rfl⟩
            case rest =>
            obtain ⟨rfl, rfl⟩ := hcut
            generalize wc = wj at *
            have US := Lib.hid (up_step UB.out HY.out)
            go_upto_region 16 with fail
            cases b with
            | true =>
              · -- it stood already
                refine wp_region_mono (by kernel_rfl) (by kernel_rfl) ?_
                simp only [List.map_cons, List.map_nil]
                repeat (first
                  | (apply wpM_is
                     · (intro us W hW hg K hK
                        clear hg
                        have c0 := hold hW r0
                        have c1 := hold hW q1
                        simp only [fillA]
                        go_simp
                        first
                        | exact hK _ (Below.refl _ _))
                     simp only [setD, List.set_cons_zero, List.set_cons_succ]))
                intro us W hW hg
                simp only [fillA]
                clear hg
                go_wp2_with fail
                go_roundg (l.length - (k + 1))
                case rel => exact ⟨k + 1, true, c2, by first | rfl | exact next_num k hk24, rfl, CNT2, rfl, below_tr BJ.out hW, Nat.le_refl _, hkl, Lib.hid (by have := US.out; simpa  using this)⟩
                case measure => exact MF2.out hkl
            | false =>
              by_cases hki : k < i
              · have hkiI : (k : Int) < (i : Int) := Int.ofNat_lt.2 hki
                by_cases hnm : y.name = u.parent
                · have hnm2 : y.name.toList = u.parent.toList := by rw [hnm]
                  have HNM := Lib.hid hnm
                  clear hnm
                  refine wp_region_mono (by kernel_rfl) (by kernel_rfl) ?_
                  simp only [List.map_cons, List.map_nil]
                  repeat (first
                    | (apply wpM_is
                       · (intro us W hW hg K hK
                          clear hg
                          have c0 := hold hW r0
                          have c1 := hold hW q1
                          simp only [fillA]
                          go_simp
                          first
                          | exact hK _ (Below.refl _ _))
                       simp only [setD, List.set_cons_zero, List.set_cons_succ]))
                  intro us W hW hg
                  simp only [fillA]
                  clear hg
                  go_wp2_with fail
                  go_roundg (l.length - (k + 1))
                  case rel => exact ⟨k + 1, true, c2, by first | rfl | exact next_num k hk24, rfl, CNT2, rfl, below_tr BJ.out hW, Nat.le_refl _, hkl, Lib.hid (by have := US.out; simpa [hki, HNM.out] using this)⟩
                  case measure => exact MF2.out hkl
                · have hnm2 := toL_ne hnm
                  refine wp_region_mono (by kernel_rfl) (by kernel_rfl) ?_
                  simp only [List.map_cons, List.map_nil]
                  repeat (first
                    | (apply wpM_is
                       · (intro us W hW hg K hK
                          clear hg
                          have c0 := hold hW r0
                          have c1 := hold hW q1
                          simp only [fillA]
                          go_simp
                          first
                          | exact hK _ (Below.refl _ _))
                       simp only [setD, List.set_cons_zero, List.set_cons_succ]))
                  intro us W hW hg
                  simp only [fillA]
                  clear hg
                  go_wp2_with fail
                  go_roundg (l.length - (k + 1))
                  case rel => exact ⟨k + 1, false, c2, by first | rfl | exact next_num k hk24, rfl, CNT2, by simp [hnm2], below_tr BJ.out hW, Nat.le_refl _, hkl, Lib.hid (by have := US.out; simpa [hki, hnm] using this)⟩
                  case measure => exact MF2.out hkl
              · have hkiI : ¬ (k : Int) < (i : Int) := fun h => hki (Int.ofNat_lt.1 h)
                refine wp_region_mono (by kernel_rfl) (by kernel_rfl) ?_
                simp only [List.map_cons, List.map_nil]
                repeat (first
                  | (apply wpM_is
                     · (intro us W hW hg K hK
                        clear hg
                        have c0 := hold hW r0
                        have c1 := hold hW q1
                        simp only [fillA]
                        go_simp
                        first
                        | exact hK _ (Below.refl _ _))
                     simp only [setD, List.set_cons_zero, List.set_cons_succ]))
                intro us W hW hg
                simp only [fillA]
                clear hg
                go_wp2_with fail
                go_roundg (l.length - (k + 1))
                case rel => exact ⟨k + 1, false, c2, by first | rfl | exact next_num k hk24, rfl, CNT2, rfl, below_tr BJ.out hW, Nat.le_refl _, hkl, Lib.hid (by have := US.out; simpa [hki] using this)⟩
                case measure => exact MF2.out hkl
          · obtain rfl : k = l.length := Nat.le_antisymm hk (Nat.not_lt.1 hkl)
            replace q0 := hold BI.out q0
            obtain rfl : cn = 1 := by rw [CNT.out, if_pos hk0]
            obtain rfl : b = true := UB.out.2 (PA.out.elim Or.inl (fun ⟨a, z, h1, h2, h3⟩ => Or.inr ⟨a, z, by omega, h1, h2, h3⟩))
            have hun : u.name.size ≤ 1000000 := (TZ.out u (List.mem_of_getElem? HU.out)).1
            have BF := Lib.hid (below_tr B2.out (below_tr BW.out BI.out))
            have DU := Lib.hid (fun W (hW : Below w1.heap.size w1 W) => DD.out W hW u.name hun)
            obtain ⟨du, hdu⟩ : ∃ d, d = depthL l u.name := ⟨_, rfl⟩
            rw [← hdu] at DU
            go_wp2_with fail
            (with_reducible refine (DU.out _ BF.out).mono ?_)
            rintro e w3 ⟨rfl, hb3⟩
            have BG := Lib.hid (below_tr BF.out hb3)
            have BH := Lib.hid (below_tr BW.out (below_tr BI.out hb3))
            replace q0 := hold hb3 q0
            clear hb3
            by_cases hi0 : 0 < i
            · obtain ⟨y, hy⟩ : ∃ y, t[i - 1]? = some y := ⟨_, List.getElem?_eq_getElem (by rw [TL.out]; exact Nat.lt_of_le_of_lt (Nat.sub_le _ _) hlt)⟩
              have ORD := OD.out y hi0 hy
              have hyn : y.name.size ≤ 1000000 := (TZ.out y (List.mem_of_getElem? hy)).1
              obtain ⟨tg', tb', e', hat2⟩ := HT.out (i - 1) y hy
              simp only [Option.some.injEq, Addr.mk.injEq, and_true] at e'
              obtain ⟨rfl, rfl⟩ := e'
              have r0 := (hat2.below BH.out).1
              have DY := Lib.hid (fun W (hW : Below w1.heap.size w1 W) => DD.out W hW y.name hyn)
              obtain ⟨dy, hdy⟩ : ∃ d, d = depthL l y.name := ⟨_, rfl⟩
              rw [← hdy] at DY
              rw [← hdu, ← hdy] at ORD
              unfold ltS at ORD
              clear hdy hdu hy hat2
              obtain ⟨n, hn, hn1, hi2, hi3, hi1, hw, hw2⟩ := NF.out hi0
              rw [hn] at r0
              clear hn
              rcases ORD with hlt1 | ⟨heq, hls⟩
              · have g1 : ¬ du < dy := Int.not_lt.2 (Int.le_of_lt hlt1)
                have g2 : ¬ dy = du := Int.ne_of_lt hlt1
                go_upto_region 18 with fail
                refine wp_region_mono (by kernel_rfl) (by kernel_rfl) ?_
                simp only [List.map_cons, List.map_nil]
                repeat (first
                  | (apply wpM_is
                     · (intro us W hW hg K hK
                        clear hg
                        have c0 := hold hW r0
                        simp only [fillA]
                        go_simp
                        first
                        | exact hK _ (Below.refl _ _)
                        | ((with_reducible refine (DY.out _ (below_tr BG.out hW)).mono ?_); rintro e w' ⟨rfl, hb⟩; exact hK _ hb))
                     simp only [setD, List.set_cons_zero, List.set_cons_succ]))
                intro us W hW hg
                simp only [fillA]
                clear hg
                go_wp2_with fail
                go_roundg (l.length - (i + 1))
                case rel => exact ⟨i + 1, by first | rfl | exact next_num i hi24, Nat.le_refl _, hlt, below_tr BH.out hW⟩
                case measure => exact MF.out
              · subst heq
                have g1 : ¬ dy < dy := Int.lt_irrefl _
                go_upto_region 18 with fail
                refine wp_region_mono (by kernel_rfl) (by kernel_rfl) ?_
                simp only [List.map_cons, List.map_nil]
                repeat (first
                  | (apply wpM_is
                     · (intro us W hW hg K hK
                        clear hg
                        have c0 := hold hW r0
                        have c1 := hold hW q0
                        simp only [fillA]
                        go_simp
                        first
                        | exact hK _ (Below.refl _ _)
                        | ((with_reducible refine (DY.out _ (below_tr BG.out hW)).mono ?_); rintro e w' ⟨rfl, hb⟩; exact hK _ hb))
                     simp only [setD, List.set_cons_zero, List.set_cons_succ]))
                intro us W hW hg
                simp only [fillA]
                clear hg
                go_wp2_with fail
                go_roundg (l.length - (i + 1))
                case rel => exact ⟨i + 1, by first | rfl | exact next_num i hi24, Nat.le_refl _, hlt, below_tr BH.out hW⟩
                case measure => exact MF.out
            · have hi1 : ¬ (0 : Int) < (i : Int) := fun h => hi0 (Int.natCast_pos.1 h)
              go_upto_region 18 with fail
              refine wp_region_mono (by kernel_rfl) (by kernel_rfl) ?_
              simp only [List.map_cons, List.map_nil]
              repeat (first
                | (apply wpM_is
                   · (intro us W hW hg K hK
                      clear hg
                      simp only [fillA]
                      go_simp
                      first
                      | exact hK _ (Below.refl _ _))
                   simp only [setD, List.set_cons_zero, List.set_cons_succ]))
              intro us W hW hg
              simp only [fillA]
              clear hg
              go_wp2_with fail
              go_roundg (l.length - (i + 1))
              case rel => exact ⟨i + 1, by first | rfl | exact next_num i hi24, Nat.le_refl _, hlt, below_tr BH.out hW⟩
              case measure => exact MF.out
      · obtain rfl : i = l.length := by omega
        go_wp2_with fail
        with_reducible refine (AW.out _).mono ?_
        rintro e w9 ⟨rfl, hb9⟩
        go_wp2_with fail
        go_ret
        exact ⟨rfl, below_tr B1.out (below_tr B2.out (below_tr BR.out hb9))⟩
end
end Go.Proofs.Ytmiadhcmhnjmfaa
