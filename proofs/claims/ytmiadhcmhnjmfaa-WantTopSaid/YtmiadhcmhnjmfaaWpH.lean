/- Package want: Check. -/
import Derived.Test.YtmiadhcmhnjmfaaWpG
import Derived.Laws.EntriesVeiled
namespace Go.Proofs.Ytmiadhcmhnjmfaa
open Go.RowKit
set_option linter.unusedVariables false
set_option linter.unusedSimpArgs false
theorem scanE_all {f : Nat → W5 → Int} {l : List W5} (h : scanE f 0 l = 0) : ∀ (k : Nat) (x : W5), l[k]? = some x → f k x = 0 := by
  intro k
  induction k using Nat.strongRecOn with
  | ind k ih =>
    intro x hx
    by_cases h0 : f k x = 0
    · exact h0
    · have := scanE_at f l 0 k x hx (by rw [Nat.zero_add]; exact h0) (fun j y hj hy => by rw [Nat.zero_add]; exact ih j hj y hy)
      rw [h, Nat.zero_add] at this
      exact absurd this.symm h0
theorem scanE_two (f : Nat → W5 → Int) (v : Int) (hf : ∀ i x, f i x = 0 ∨ f i x = v) : ∀ (l : List W5) (i : Nat), scanE f i l = 0 ∨ scanE f i l = v
  | [], i => .inl rfl
  | x :: l, i => by
    unfold scanE
    split
    · exact hf i x
    · exact scanE_two f v hf l (i + 1)
theorem par_of {l : List W5} (h : scanE (c2W l) 0 l = 0) : ∀ (i : Nat) (x : W5), l[i]? = some x → x.parent ≠ ⟨#[]⟩ → ∃ (j : Nat) (y : W5), l[j]? = some y ∧ y.name = x.parent := by
  intro i x hx hp
  have h0 := scanE_all h i x hx
  unfold c2W at h0
  cases hw : wIdx l x.parent with
  | none => rw [if_pos ⟨hp, hw⟩] at h0; cases h0
  | some j =>
    obtain ⟨y, hy, e, _⟩ := wIdx_spec hw
    exact ⟨j, y, hy, e⟩
theorem circ_of {l : List W5} (h1 : scanE (c1W l) 0 l = 0) (h2 : scanE (c2W l) 0 l = 0) : (0 ∈ deepI l → scanE (c3W l) 0 l = 10) ∧ (0 ∉ deepI l → scanE (c3W l) 0 l = 0) := by
  have ho := ownN_of h1
  have hp := par_of h2
  refine ⟨fun hm => ?_, fun hm => ?_⟩
  · rcases scanE_two (c3W l) 10 (fun i x => by unfold c3W; split <;> simp) l 0 with h | h
    · exfalso
      obtain ⟨i, hi, e⟩ := List.mem_iff_getElem.1 hm
      have hil : i < l.length := by rw [deep_len] at hi; exact hi
      obtain ⟨k, hk, -, h0⟩ := deep_at ho hp (List.getElem?_eq_getElem hil)
      rw [List.getElem?_eq_getElem hi, e] at hk
      have hk0 : k = 0 := by simpa using hk.symm
      have := scanE_all h i _ (List.getElem?_eq_getElem hil)
      unfold c3W at this
      rw [h0 hk0, if_pos (by decide)] at this
      cases this
    · exact h
  · refine scanE_none _ _ _ fun i x hx => ?_
    rw [Nat.zero_add]
    obtain ⟨k, hk, hpos, -⟩ := deep_at ho hp hx
    have : 0 < k := by
      rcases Nat.eq_zero_or_pos k with e | e
      · subst e; exact absurd (List.mem_of_getElem? hk) hm
      · exact e
    unfold c3W
    rw [hpos this, if_neg (by omega)]
theorem may_of {l : List W5} (h : scanE (c1W l) 0 l = 0) : ∀ y ∈ l, mayV y.lim = true := fun y hy => by
  obtain ⟨j, hj, rfl⟩ := List.mem_iff_getElem.1 hy
  exact (c1W_zero (scanE_all h j _ (List.getElem?_eq_getElem hj))).2.1
/-- The four parts of Check, as functions with what they are asked of. -/
def FunsAt (w : World) (b : Nat) (lv dv : Value) : Prop := w.heap[b]? = some (.cells #[.func (.func 28) #[lv] #[], .func (.func 29) #[lv] #[], .func (.func 30) #[.agg #[lv, dv]] #[], .func (.func 31) #[lv] #[]] 55 (0, 0))
theorem FunsAt.below {w w' : World} {b : Nat} {lv dv : Value} (h : FunsAt w b lv dv) (hb : Below w.heap.size w w') : FunsAt w' b lv dv := (hb.block b (World.lt_of_heap h)).trans h
theorem FunsAt.cell0 {w : World} {b : Nat} {lv dv : Value} (h : FunsAt w b lv dv) : w.cell? ⟨b, 0, none⟩ = some (.func (.func 28) #[lv] #[]) := by rw [cell_of_row _ _ 0 _ _ _ h]; rfl
theorem FunsAt.cell1 {w : World} {b : Nat} {lv dv : Value} (h : FunsAt w b lv dv) : w.cell? ⟨b, 1, none⟩ = some (.func (.func 29) #[lv] #[]) := by rw [cell_of_row _ _ 1 _ _ _ h]; rfl
theorem FunsAt.cell2 {w : World} {b : Nat} {lv dv : Value} (h : FunsAt w b lv dv) : w.cell? ⟨b, 2, none⟩ = some (.func (.func 30) #[.agg #[lv, dv]] #[]) := by rw [cell_of_row _ _ 2 _ _ _ h]; rfl
theorem FunsAt.cell3 {w : World} {b : Nat} {lv dv : Value} (h : FunsAt w b lv dv) : w.cell? ⟨b, 3, none⟩ = some (.func (.func 31) #[lv] #[]) := by rw [cell_of_row _ _ 3 _ _ _ h]; rfl
section
variable (w : World)
set_option maxHeartbeats 8000000 in
set_option maxRecDepth 20000 in
theorem pcheck (l : List W5) (lv : Value) (h : WRow w l lv) (hz : ∀ u ∈ l, u.name.size ≤ 1000000 ∧ u.parent.size ≤ 1000000) (hl : l.length ≤ 1000) :
    Calls Try.prog 12 #[lv] w (Made (.int .i64 (checkL l)) w) := by
  by_cases hbig : 120 < l.length
  · have R := Lib.hid (show checkL l = 4 by unfold checkL; rw [if_pos hbig])
    obtain ⟨ao, cap, rfl⟩ := h.shape
    clear h hz
    go_enter Try.func12, Try.ntmps12
    go_wp2_with fail
    go_ret
    exact ⟨by rw [R.out]; rfl, Below.refl _ _⟩
  have CK := Lib.hid (show checkL l = if scanE (c1W l) 0 l ≠ 0 then scanE (c1W l) 0 l else if scanE (c2W l) 0 l ≠ 0 then scanE (c2W l) 0 l else if scanE (c3W l) 0 l ≠ 0 then scanE (c3W l) 0 l else scanE (c4W l) 0 l by unfold checkL; rw [if_neg hbig])
  have PD := Lib.hid (pdeepen w l lv h hl hz)
  have P1 := Lib.hid (fun W (hW : Below w.heap.size w W) => pnames W l lv (h.below hW) hl hz)
  have P2 := Lib.hid (fun W (hW : Below w.heap.size w W) => pparents W l lv (h.below hW) hl hz)
  have P4 := Lib.hid (fun h1 W (hW : Below w.heap.size w W) => psums W l lv (h.below hW) hl hz (may_of h1))
  have CI := Lib.hid (circ_of (l := l))
  have DL := Lib.hid (deep_len l)
  obtain ⟨ao, cap, rfl⟩ := h.shape
  have hl2 : l.length ≤ 120 := by omega
  clear h hz hbig
  go_enter Try.func12, Try.ntmps12
  go_wp2_with fail
  with_reducible refine PD.out.mono ?_
  rintro e w1 ⟨h, rfl, hb1, ho⟩
  have B1 := Lib.hid hb1
  have HO := Lib.hid ho
  clear hb1 ho PD
  go_wp2_with fail
  have FB := Lib.hid (heap_alloc_new (w1.alloc (.cells #[.slice ao l.length cap, .slice (some ⟨h, 0, none⟩) l.length l.length] 53)) (.cells #[.func (.func 28) #[.slice ao l.length cap] #[], .func (.func 29) #[.slice ao l.length cap] #[], .func (.func 30) #[.agg #[.slice ao l.length cap, .slice (some ⟨h, 0, none⟩) l.length l.length]] #[], .func (.func 31) #[.slice ao l.length cap] #[]] 55))
  have BA := Lib.hid (below_al (below_al (Below.refl w1.heap.size w1) (.cells #[.slice ao l.length cap, .slice (some ⟨h, 0, none⟩) l.length l.length] 53)) (.cells #[.func (.func 28) #[.slice ao l.length cap] #[], .func (.func 29) #[.slice ao l.length cap] #[], .func (.func 30) #[.agg #[.slice ao l.length cap, .slice (some ⟨h, 0, none⟩) l.length l.length]] #[], .func (.func 31) #[.slice ao l.length cap] #[]] 55))
  have SZ := Lib.hid (show (w1.alloc (.cells #[.slice ao l.length cap, .slice (some ⟨h, 0, none⟩) l.length l.length] 53)).heap.size = w1.heap.size + 1 by simp)
  rw [SZ.out] at FB
  go_loopg [25] 4 (fun m iv wr => ∃ k : Nat, iv = .int .i64 k ∧ 4 - k ≤ m ∧ k ≤ 4 ∧ Below w1.heap.size w1 wr ∧ FunsAt wr (w1.heap.size + 1) (.slice ao l.length cap) (.slice (some ⟨h, 0, none⟩) l.length l.length) ∧ Hid ((1 ≤ k → scanE (c1W l) 0 l = 0) ∧ (2 ≤ k → scanE (c2W l) 0 l = 0) ∧ (3 ≤ k → scanE (c3W l) 0 l = 0) ∧ (4 ≤ k → scanE (c4W l) 0 l = 0)))
  case atStart => exact ⟨0, rfl, by omega, by omega, BA.out, FB.out, Lib.hid ⟨by omega, by omega, by omega, by omega⟩⟩
  case round =>
    obtain ⟨k, rfl, hm, hk, hb, hf, OK⟩ := hrel
    have HM := Lib.hid hm
    have BR := Lib.hid hb
    have FR := Lib.hid hf
    have BW := Lib.hid (below_tr B1.out hb)
    clear hm hb hf BA FB SZ
    have hk5 : k = 0 ∨ k = 1 ∨ k = 2 ∨ k = 3 ∨ k = 4 := by omega
    rcases hk5 with rfl | rfl | rfl | rfl | rfl
    · have c0 := FR.out.cell0
      have PC := Lib.hid (P1.out wr BW.out)
      have CK1 := Lib.hid (show ¬ scanE (c1W l) 0 l = 0 → checkL l = scanE (c1W l) 0 l from fun hn => by rw [CK.out, if_pos hn])
      by_cases hz : scanE (c1W l) 0 l = 0
      · rw [hz] at PC
        have NX := Lib.hid (show (1 ≤ 0 + 1 → scanE (c1W l) 0 l = 0) ∧ (2 ≤ 0 + 1 → scanE (c2W l) 0 l = 0) ∧ (3 ≤ 0 + 1 → scanE (c3W l) 0 l = 0) ∧ (4 ≤ 0 + 1 → scanE (c4W l) 0 l = 0) from ⟨fun _ => hz, by omega, by omega, by omega⟩)
        clear hz CK1
        go_wp2_with fail
        with_reducible refine PC.out.mono ?_
        rintro e w2 ⟨rfl, h2⟩
        have B2 := Lib.hid (BR.out.trans (h2.mono BR.out.size))
        have F2 := Lib.hid (FR.out.below h2)
        clear h2
        go_wp2_with fail
        go_roundg 3
        case rel => exact ⟨0 + 1, rfl, by omega, by omega, B2.out, F2.out, NX⟩
        case measure => have := HM.out; omega
      · have R := Lib.hid (CK1.out hz)
        have ne : (scanE (c1W l) 0 l == 0) = false := by simpa using hz
        generalize scanE (c1W l) 0 l = ee at *
        go_wp2_with fail
        with_reducible refine PC.out.mono ?_
        rintro e w2 ⟨rfl, h2⟩
        have B2 := Lib.hid (below_tr BW.out h2)
        clear h2
        go_wp2_with fail
        go_ret
        exact ⟨by rw [R.out]; rfl, B2.out⟩
    · have c0 := FR.out.cell1
      have PC := Lib.hid (P2.out wr BW.out)
      have CK1 := Lib.hid (show ¬ scanE (c2W l) 0 l = 0 → checkL l = scanE (c2W l) 0 l from fun hn => by rw [CK.out, if_neg (by rw [OK.out.1 (by omega)]; decide), if_pos hn])
      by_cases hz : scanE (c2W l) 0 l = 0
      · rw [hz] at PC
        have NX := Lib.hid (show (1 ≤ 1 + 1 → scanE (c1W l) 0 l = 0) ∧ (2 ≤ 1 + 1 → scanE (c2W l) 0 l = 0) ∧ (3 ≤ 1 + 1 → scanE (c3W l) 0 l = 0) ∧ (4 ≤ 1 + 1 → scanE (c4W l) 0 l = 0) from ⟨fun _ => OK.out.1 (by omega), fun _ => hz, by omega, by omega⟩)
        clear hz CK1
        go_wp2_with fail
        with_reducible refine PC.out.mono ?_
        rintro e w2 ⟨rfl, h2⟩
        have B2 := Lib.hid (BR.out.trans (h2.mono BR.out.size))
        have F2 := Lib.hid (FR.out.below h2)
        clear h2
        go_wp2_with fail
        go_roundg 2
        case rel => exact ⟨1 + 1, rfl, by omega, by omega, B2.out, F2.out, NX⟩
        case measure => have := HM.out; omega
      · have R := Lib.hid (CK1.out hz)
        have ne : (scanE (c2W l) 0 l == 0) = false := by simpa using hz
        generalize scanE (c2W l) 0 l = ee at *
        go_wp2_with fail
        with_reducible refine PC.out.mono ?_
        rintro e w2 ⟨rfl, h2⟩
        have B2 := Lib.hid (below_tr BW.out h2)
        clear h2
        go_wp2_with fail
        go_ret
        exact ⟨by rw [R.out]; rfl, B2.out⟩
    · have c0 := FR.out.cell2
      have PC := Lib.hid (show Calls Try.prog 30 #[.agg #[.slice ao l.length cap, .slice (some ⟨h, 0, none⟩) l.length l.length]] wr (Made (.int .i64 (scanE (c3W l) 0 l)) wr) from by
        obtain ⟨r1, r2⟩ := CI.out (OK.out.1 (by omega)) (OK.out.2.1 (by omega))
        have ho := own_below HO.out BR.out
        have dl := DL.out
        have := pcircles wr (.slice ao l.length cap) h w.heap.size (deepI l) (by rw [dl]; exact ho) (by omega) ao l.length cap rfl (scanE (c3W l) 0 l) r1 r2
        rw [dl] at this
        exact this)
      have CK1 := Lib.hid (show ¬ scanE (c3W l) 0 l = 0 → checkL l = scanE (c3W l) 0 l from fun hn => by rw [CK.out, if_neg (by rw [OK.out.1 (by omega)]; decide), if_neg (by rw [OK.out.2.1 (by omega)]; decide), if_pos hn])
      by_cases hz : scanE (c3W l) 0 l = 0
      · rw [hz] at PC
        have NX := Lib.hid (show (1 ≤ 2 + 1 → scanE (c1W l) 0 l = 0) ∧ (2 ≤ 2 + 1 → scanE (c2W l) 0 l = 0) ∧ (3 ≤ 2 + 1 → scanE (c3W l) 0 l = 0) ∧ (4 ≤ 2 + 1 → scanE (c4W l) 0 l = 0) from ⟨fun _ => OK.out.1 (by omega), fun _ => OK.out.2.1 (by omega), fun _ => hz, by omega⟩)
        clear hz CK1
        go_wp2_with fail
        with_reducible refine PC.out.mono ?_
        rintro e w2 ⟨rfl, h2⟩
        have B2 := Lib.hid (BR.out.trans (h2.mono BR.out.size))
        have F2 := Lib.hid (FR.out.below h2)
        clear h2
        go_wp2_with fail
        go_roundg 1
        case rel => exact ⟨2 + 1, rfl, by omega, by omega, B2.out, F2.out, NX⟩
        case measure => have := HM.out; omega
      · have R := Lib.hid (CK1.out hz)
        have ne : (scanE (c3W l) 0 l == 0) = false := by simpa using hz
        generalize scanE (c3W l) 0 l = ee at *
        go_wp2_with fail
        with_reducible refine PC.out.mono ?_
        rintro e w2 ⟨rfl, h2⟩
        have B2 := Lib.hid (below_tr BW.out h2)
        clear h2
        go_wp2_with fail
        go_ret
        exact ⟨by rw [R.out]; rfl, B2.out⟩
    · have c0 := FR.out.cell3
      have PC := Lib.hid (P4.out (OK.out.1 (by omega)) wr BW.out)
      have CK1 := Lib.hid (show checkL l = scanE (c4W l) 0 l from by rw [CK.out, if_neg (by rw [OK.out.1 (by omega)]; decide), if_neg (by rw [OK.out.2.1 (by omega)]; decide), if_neg (by rw [OK.out.2.2.1 (by omega)]; decide)])
      by_cases hz : scanE (c4W l) 0 l = 0
      · rw [hz] at PC
        have NX := Lib.hid (show (1 ≤ 3 + 1 → scanE (c1W l) 0 l = 0) ∧ (2 ≤ 3 + 1 → scanE (c2W l) 0 l = 0) ∧ (3 ≤ 3 + 1 → scanE (c3W l) 0 l = 0) ∧ (4 ≤ 3 + 1 → scanE (c4W l) 0 l = 0) from ⟨fun _ => OK.out.1 (by omega), fun _ => OK.out.2.1 (by omega), fun _ => OK.out.2.2.1 (by omega), fun _ => hz⟩)
        clear hz CK1
        go_wp2_with fail
        with_reducible refine PC.out.mono ?_
        rintro e w2 ⟨rfl, h2⟩
        have B2 := Lib.hid (BR.out.trans (h2.mono BR.out.size))
        have F2 := Lib.hid (FR.out.below h2)
        clear h2
        go_wp2_with fail
        go_roundg 0
        case rel => exact ⟨3 + 1, rfl, by omega, by omega, B2.out, F2.out, NX⟩
        case measure => have := HM.out; omega
      · have R := Lib.hid CK1.out
        have ne : (scanE (c4W l) 0 l == 0) = false := by simpa using hz
        generalize scanE (c4W l) 0 l = ee at *
        go_wp2_with fail
        with_reducible refine PC.out.mono ?_
        rintro e w2 ⟨rfl, h2⟩
        have B2 := Lib.hid (below_tr BW.out h2)
        clear h2
        go_wp2_with fail
        go_ret
        exact ⟨by rw [R.out]; rfl, B2.out⟩
    · have R := Lib.hid (show checkL l = 0 from by rw [CK.out, if_neg (by rw [OK.out.1 (by omega)]; decide), if_neg (by rw [OK.out.2.1 (by omega)]; decide), if_neg (by rw [OK.out.2.2.1 (by omega)]; decide), OK.out.2.2.2 (by omega)])
      go_wp2_with fail
      go_ret
      exact ⟨by rw [R.out]; rfl, BW.out⟩
end
end Go.Proofs.Ytmiadhcmhnjmfaa
