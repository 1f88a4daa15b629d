/- Package want: Depth. -/
import Derived.Test.YtmiadhcmhnjmfaaWpH
namespace Go.Proofs.Ytmiadhcmhnjmfaa
open Go.RowKit
set_option linter.unusedVariables false
set_option linter.unusedSimpArgs false
theorem fit_ok {l : List W5} (h : FitW l) : scanE (c1W l) 0 l = 0 ∧ scanE (c2W l) 0 l = 0 ∧ scanE (c3W l) 0 l = 0 := by
  have hl := h.len
  have v1 : ∀ i x, c1W l i x = 0 ∨ c1W l i x = 1 ∨ c1W l i x = 3 := fun i x => by
    unfold c1W
    split
    · simp
    · split
      · simp
      · split <;> simp
  have e1 : scanE (c1W l) 0 l = 0 := by
    by_cases h0 : scanE (c1W l) 0 l = 0
    · exact h0
    · exfalso
      have hv : ∀ (r : List W5) (i : Nat), scanE (c1W l) i r = 0 ∨ scanE (c1W l) i r = 1 ∨ scanE (c1W l) i r = 3 := by
        intro r
        induction r with
        | nil => intro i; exact .inl rfl
        | cons x r ih =>
          intro i
          unfold scanE
          split
          · exact v1 i x
          · exact ih (i + 1)
      unfold FitW checkL at h
      rw [if_neg (by omega), if_pos h0] at h
      rcases hv l 0 with h1 | h1 | h1 <;> rw [h1] at h <;> simp at h
      exact h0 h1
  have e2 : scanE (c2W l) 0 l = 0 := by
    rcases scanE_two (c2W l) 2 (fun i x => by unfold c2W; split <;> simp) l 0 with h2 | h2
    · exact h2
    · unfold FitW checkL at h
      rw [if_neg (by omega), e1, if_neg (by simp), h2] at h
      simp at h
  have e3 : scanE (c3W l) 0 l = 0 := by
    rcases scanE_two (c3W l) 10 (fun i x => by unfold c3W; split <;> simp) l 0 with h2 | h2
    · exact h2
    · unfold FitW checkL at h
      rw [if_neg (by omega), e1, if_neg (by simp), e2, if_neg (by simp), h2] at h
      simp at h
  exact ⟨e1, e2, e3⟩
/-- In a tree that fits each stands as deep as the document says. -/
theorem fit_deep {l : List W5} (h : FitW l) {i : Nat} {x : W5} (hx : l[i]? = some x) : ∃ k : Nat, (deepI l)[i]? = some k ∧ 0 < k ∧ depthL l x.name = k := by
  obtain ⟨h1, h2, h3⟩ := fit_ok h
  obtain ⟨k, hk, hp, h0⟩ := deep_at (ownN_of h1) (par_of h2) hx
  have hpos : 0 < k := by
    rcases Nat.eq_zero_or_pos k with e | e
    · have h4 := scanE_all h3 i x hx
      unfold c3W at h4
      rw [h0 e, if_pos (by decide)] at h4
      cases h4
    · exact e
  exact ⟨k, hk, hpos, hp hpos⟩
theorem deep_field (W : World) (a b : Value) : (Instr.field 53 (.agg #[a, b]) 1).run Try.prog W = .ok b W := by kernel_rfl
section
variable (w : World)
set_option maxHeartbeats 1000000 in
set_option maxRecDepth 20000 in
theorem pisname (u : W5) (s : ByteArray) (b : Nat) (hc : w.cell? ⟨b, 0, none⟩ = some (.string s)) :
    Calls Try.prog 33 #[.agg #[.string u.name, .string u.parent, .int .i64 u.lim.c, .int .i64 u.lim.m, .int .i64 u.lim.p], .pointer (some ⟨b, 0, none⟩)] w (Made (.bool (decide (u.name = s))) w) := by
  have B0 := Lib.hid (below_al (Below.refl w.heap.size w) (.cells #[.string u.name, .string u.parent, .int .i64 u.lim.c, .int .i64 u.lim.m, .int .i64 u.lim.p] 39))
  have c1 := hold B0.out hc
  have E := Lib.hid (tstr_eq u.name s)
  generalize decide (u.name = s) = d at *
  have e := E.out
  clear hc E
  go_enter Try.func33, Try.ntmps33
  go_wp2_with fail
  go_ret
  exact ⟨rfl, B0.out⟩
set_option maxHeartbeats 2000000 in
set_option maxRecDepth 20000 in
theorem pindex (l : List W5) (lv : Value) (h : WRow w l lv) (hl : l.length ≤ 1000) (s : ByteArray) (b : Nat) (hc : w.cell? ⟨b, 0, none⟩ = some (.string s)) :
    Calls Try.prog 32 #[lv, .func (.func 33) #[] #[.pointer (some ⟨b, 0, none⟩)]] w (Made (.int .i64 (wantedL l s)) w) := by
  obtain ⟨ao, cap, rfl, h1, h2, hat⟩ := h
  have HAT := Lib.hid hat
  have HC := Lib.hid hc
  clear hat h1 h2 hc
  go_enter Try.func32, Try.ntmps32
  go_wp2_with fail
  go_loopg [8] l.length (fun m iv wr => ∃ k : Nat, iv = .int .i64 k ∧ l.length - k ≤ m ∧ k ≤ l.length ∧ Below w.heap.size w wr ∧ Hid (∀ j y, j < k → l[j]? = some y → y.name ≠ s))
  case atStart => exact ⟨0, rfl, Nat.le_refl _, Nat.zero_le _, Below.refl _ _, Lib.hid (fun j y hj => by omega)⟩
  case round =>
    obtain ⟨k, rfl, hm, hk, hb, NB⟩ := hrel
    have HM := Lib.hid hm
    have BR := Lib.hid hb
    clear hm hb
    by_cases hlt : k < l.length
    · obtain ⟨u, hu⟩ : ∃ u, l[k]? = some u := ⟨_, List.getElem?_eq_getElem hlt⟩
      have HU := Lib.hid hu
      obtain ⟨g, o, rfl, hcu⟩ := HAT.out k u hu
      obtain ⟨k0, k1, k2, k3, k4⟩ := hcu.below BR.out
      have PN := Lib.hid (pisname wr u s b (hold BR.out HC.out))
      clear hu hcu
      by_cases hn : u.name = s
      · have R := Lib.hid (show wantedL l s = (k : Int) by unfold wantedL; rw [wIdx_some HU.out hn NB.out])
        rw [decide_eq_true hn] at PN
        clear hn
        go_wp2_with fail
        with_reducible refine PN.out.mono ?_
        rintro e w2 ⟨rfl, h2⟩
        have B2 := Lib.hid (below_tr BR.out h2)
        clear h2
        go_wp2_with fail
        go_ret
        exact ⟨by rw [R.out]; rfl, B2.out⟩
      · have NX := Lib.hid (show ∀ j y, j < k + 1 → l[j]? = some y → y.name ≠ s from fun j y hj hy => by
          by_cases ej : j = k
          · subst ej
            obtain rfl : u = y := Option.some.inj (HU.out.symm.trans hy)
            exact hn
          · exact NB.out j y (by omega) hy)
        rw [decide_eq_false hn] at PN
        clear hn
        go_wp2_with fail
        with_reducible refine PN.out.mono ?_
        rintro e w2 ⟨rfl, h2⟩
        have B2 := Lib.hid (below_tr BR.out h2)
        clear h2
        go_wp2_with fail
        go_roundg (l.length - (k + 1))
        case rel => exact ⟨k + 1, by go_num, Nat.le_refl _, hlt, B2.out, NX⟩
        case measure => have := HM.out; omega
    · obtain rfl : k = l.length := by omega
      have R := Lib.hid (show wantedL l s = -1 by unfold wantedL; rw [wIdx_none NB.out])
      go_wp2_with fail
      go_ret
      exact ⟨by rw [R.out]; rfl, BR.out⟩
set_option maxHeartbeats 2000000 in
set_option maxRecDepth 20000 in
theorem pdepth (l : List W5) (lv : Value) (s : ByteArray) (h : WRow w l lv) (hz : ∀ u ∈ l, u.name.size ≤ 1000000 ∧ u.parent.size ≤ 1000000) (hs : s.size ≤ 1000000) (hf : FitW l) :
    Calls Try.prog 13 #[lv, .string s] w (Made (.int .i64 (depthL l s)) w) := by
  have hl := hf.len
  have BX := Lib.hid (below_al (Below.refl w.heap.size w) (.cells #[.string s] 9))
  have PI := Lib.hid (pindex (w.alloc (.cells #[.string s] 9)) l lv (h.below BX.out) (by omega) s w.heap.size (by rw [cell_of_row _ _ 0 _ _ _ (heap_alloc_new w _)]; rfl))
  have PD := Lib.hid (fun W (hW : Below w.heap.size w W) => pdeepen W l lv (h.below hW) (by omega) hz)
  have DP := Lib.hid (show ∀ i x, l[i]? = some x → ∃ k : Nat, (deepI l)[i]? = some k ∧ 0 < k ∧ depthL l x.name = k from fun i x hx => fit_deep hf hx)
  have WI := Lib.hid (show wantedL l s = match wIdx l s with | some k => (k : Int) | none => -1 from rfl)
  have DL := Lib.hid (deep_len l)
  obtain ⟨ao, cap, rfl⟩ := h.shape
  clear h hz hs hf
  go_enter Try.func13, Try.ntmps13
  go_wp2_with fail
  with_reducible refine PI.out.mono ?_
  rintro e w1 ⟨rfl, h1⟩
  have B1 := Lib.hid (below_tr BX.out h1)
  clear h1 PI BX
  cases hw : wIdx l s with
  | none =>
    have E := Lib.hid (show wantedL l s = -1 by rw [WI.out, hw])
    have R := Lib.hid (show depthL l s = 0 from depthU_none hw _ _)
    rw [E.out]
    clear hw WI
    go_wp2_with fail
    go_ret
    exact ⟨by rw [R.out]; rfl, B1.out⟩
  | some k =>
    have E := Lib.hid (show wantedL l s = (k : Int) by rw [WI.out, hw])
    obtain ⟨x, hx, hn, -⟩ := wIdx_spec hw
    obtain ⟨d, hd, hpos, hdl⟩ := DP.out k x hx
    have hkl := wIdx_lt hw
    rw [hn] at hdl
    have R := Lib.hid hdl
    have HD := Lib.hid hd
    have kn : ¬ (k : Int) < 0 := by omega
    have x0 : (0 : Int) ≤ (k : Int) := by omega
    have x1 : (k : Int) < (l.length : Int) := by omega
    rw [E.out]
    clear hw WI hx hn hd hdl hpos
    go_wp2_with fail
    with_reducible refine (PD.out w1 B1.out).mono ?_
    rintro e w2 ⟨h, rfl, h2, ho⟩
    obtain ⟨b, e, q0⟩ := own_cell (xs := deepI l) (cap := l.length) (by rw [DL.out]; exact ho) HD.out
    obtain rfl : h = b := by simpa using e
    have B2 := Lib.hid (below_tr B1.out h2)
    have gf := deep_field w2 (.slice ao l.length cap) (.slice (some ⟨h, 0, none⟩) l.length l.length)
    clear h2 ho e
    go_wp2_with fail
    go_ret
    exact ⟨by rw [R.out]; rfl, B2.out⟩
end
end Go.Proofs.Ytmiadhcmhnjmfaa
