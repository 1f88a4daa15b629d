/- Package want: Top. -/
import Derived.Test.YtmiadhcmhnjmfaaWpQ
import Derived.Lib.SlicesS
namespace Go.Proofs.Ytmiadhcmhnjmfaa
open Go.RowKit
set_option linter.unusedVariables false
set_option linter.unusedSimpArgs false
section
variable (w : World)
set_option maxHeartbeats 2000000 in
set_option maxRecDepth 20000 in
theorem pclone (l : List W5) (lv : Value) (h : WRow w l lv) (hl : l.length ≤ 1000) :
    Calls Try.prog 34 #[lv] w (MadeRow l w) := by
  have H0 := Lib.hid h
  obtain ⟨i0, hi0, hz0, hz1, hz2⟩ := info_partsT info_want
  obtain ⟨ao, cap, rfl⟩ := h.shape
  cases ao with
  | none =>
    have hl0 : l = [] := by
      have := (WRow.src h).1 rfl
      exact List.eq_nil_of_length_eq_zero this
    subst hl0
    have hnil := fun W => Lib.run_eql_slice_nil (P := Try.prog) W 22 39 none 0 cap 0 0 Try.underlying22
    clear h
    go_enter Try.func34, Try.ntmps34
    go_wp2_with fail
    go_ret
    exact ⟨_, rfl, Below.refl _ _, own_none _ _ _ _⟩
  | some ad =>
    have BX := Lib.hid (below_al (Below.refl w.heap.size w) (.cells #[] 39))
    have OW := Lib.hid (World.ownsRow_lit (base := w.heap.size) (e := 39) (size := 5) w #[] 0 (Nat.le_refl _) (Nat.zero_le _) rfl)
    have SR := Lib.hid ((H0.out.below BX.out).src)
    have SZ := Lib.hid (show (w.alloc (.cells #[] 39)).heap.size = w.heap.size + 1 by simp)
    have hnil := fun W => Lib.run_eql_slice_nil (P := Try.prog) W 22 39 (some ad) l.length cap 0 0 Try.underlying22
    clear h
    go_enter Try.func34, Try.ntmps34
    go_wp2_with (first
      | (at_builtin; refine wpList_append_any _ rfl _ _ 22 rfl w.heap.size 39 i0 _ 5 56 Try.underlying22 hi0 hz0 hz1 hz2 rfl (by decide) (.slice (some ⟨w.heap.size, 0, none⟩) 0 0) 0 [] rfl OW.out (some ad) l.length cap (w5s l) rfl (w5s_len l) SR.out.1 SR.out.2 (w5s_one l) (by unfold maxLen; omega) (by omega) (by have := SZ.out; omega) ?_; intro v6 w6 hown6 hgrow6))
    have OW6 := Lib.hid (show w6.ownsRow w.heap.size 39 5 v6 l.length (w5s l) by
      have := hown6
      rwa [Nat.zero_add, List.nil_append] at this)
    have B6 := Lib.hid (below_grown' BX.out hgrow6 (fun k e => by have e2 : w.heap.size = k := by simpa [Value.ownBlock] using e
                                                                  omega))
    clear hown6 hgrow6
    go_wp2_with fail
    go_ret
    exact ⟨v6, rfl, B6.out, OW6.out⟩
set_option maxHeartbeats 2000000 in
theorem pinsert0 (dv : Value) : Calls Try.prog 43 #[dv, .int .i64 0, .int .i64 0] w fun e w' => e = .returned (.tuple #[]) ∧ w = w' := by
  go_enter Try.func43, Try.ntmps43
  go_wp2_with fail
  go_loopg [6] 0 (fun m iv wr => iv = .int .i64 1 ∧ w = wr)
  case atStart => exact ⟨by go_num, rfl⟩
  case round =>
    obtain ⟨rfl, rfl⟩ := hrel
    go_wp2_with fail
    exact bodyPost_end (v := .tuple #[]) (by simp [results, Try.results43, go_sem]) rfl ⟨rfl, rfl⟩
set_option maxHeartbeats 2000000 in
theorem pstable0 (dv : Value) : Calls Try.prog 41 #[dv, .int .i64 0] w fun e w' => e = .returned (.tuple #[]) ∧ w = w' := by
  have IS := Lib.hid (pinsert0 w dv)
  go_enter Try.func41, Try.ntmps41
  go_wp2_with fail
  go_loopg [5, 6] 0 (fun m av bv wr => av = .int .i64 0 ∧ bv = .int .i64 20 ∧ w = wr)
  case atStart => exact ⟨rfl, rfl, rfl⟩
  case round =>
    obtain ⟨rfl, rfl, rfl⟩ := hrel
    go_wp2_with fail
    with_reducible refine IS.out.mono ?_
    rintro e w1 ⟨rfl, rfl⟩
    go_wp2_with fail
    go_loopg [4] 0 (fun m bv wr => bv = .int .i64 20 ∧ w = wr)
    case atStart => exact ⟨rfl, rfl⟩
    case round =>
      obtain ⟨rfl, rfl⟩ := hrel
      go_wp2_with fail
      exact bodyPost_end (v := .tuple #[]) (by simp [results, Try.results41, go_sem]) rfl ⟨rfl, rfl⟩
set_option maxHeartbeats 2000000 in
theorem pStable0 (lo : Option Addr) (c : Nat) (b : Value) : Calls Try.prog 35 #[.iface 53 (.agg #[.slice lo 0 c, b])] w fun e w' => e = .returned (.tuple #[]) ∧ w = w' := by
  have PS := Lib.hid (pstable0 w (.iface 53 (.agg #[.slice lo 0 c, b])))
  have PL := Lib.hid (show Calls Try.prog 63 #[.slice lo 0 c] w fun e w' => e = .returned (.int .i64 0) ∧ w = w' from plenL w lo 0 c)
  have lm := dLen (.slice lo 0 c) b w
  go_enter Try.func35, Try.ntmps35
  go_wp2_with fail
  with_reducible refine PL.out.mono ?_
  rintro e w1 ⟨rfl, rfl⟩
  go_wp2_with fail
  with_reducible refine PS.out.mono ?_
  rintro e w2 ⟨rfl, rfl⟩
  go_wp2_with fail
  exact bodyPost_end (v := .tuple #[]) (by simp [results, Try.results35, go_sem]) rfl ⟨rfl, rfl⟩
/-- A new row and its depths, as what is sorted. -/
theorem srt_of {W : World} {B g cap h : Nat} {l : List W5} (hf : FitW l) (ho : W.ownsRow B 39 5 (.slice (some ⟨g, 0, none⟩) l.length cap) l.length (w5s l)) (hn : 0 < l.length)
    (hd : W.ownsRow B 3 1 (.slice (some ⟨h, 0, none⟩) l.length l.length) l.length (natC (deepI l))) (hgh : g ≠ h) : SrtAt W g h l.length (keyF l) := by
  have hw := wrow_of_own ho
  refine ⟨fun k hk => ?_, fun k hk => ?_, fun o => ho.frozenAt o, fun o => hd.frozenAt o, hgh, (ho.lt g rfl).2, (hd.lt h rfl).2⟩
  · obtain ⟨ao, cap', e, -, -, hc⟩ := hw
    simp only [Value.slice.injEq] at e
    obtain ⟨rfl, -, rfl⟩ := e
    have hx := List.getElem?_eq_getElem hk
    obtain ⟨g', o', e', hat⟩ := hc k _ hx
    simp only [Option.some.injEq, Addr.mk.injEq, and_true] at e'
    obtain ⟨rfl, rfl⟩ := e'
    rw [Nat.zero_add] at hat
    rw [keyF_at hf hx]; exact hat
  · have hx := List.getElem?_eq_getElem hk
    rw [hd.cellAt k (by omega), keyF_at hf hx]
    exact natC_at (fit_dk hf hx).1
set_option maxHeartbeats 4000000 in
set_option maxRecDepth 20000 in
theorem ptop (l : List W5) (lv : Value) (h : WRow w l lv) (hz : ∀ u ∈ l, u.name.size ≤ 1000000 ∧ u.parent.size ≤ 1000000) (hf : FitW l) :
    Calls Try.prog 16 #[lv] w (MadeRow (topL l) w) := by
  have hl := hf.len
  have CL := Lib.hid (pclone w l lv h (by omega))
  have PD := Lib.hid (fun W v (hv : WRow W l v) => pdeepen W l v hv (by omega) hz)
  have ST := Lib.hid (fun W g h c (s : SrtAt W g h l.length (keyF l)) => pStable W g h l.length c (keyF l) s (by omega))
  have TL := Lib.hid (show (topL l).length = l.length by rw [← topTo_all, topTo_len _ _ (Nat.le_refl _)])
  have HF := Lib.hid hf
  obtain ⟨ao, cap, rfl⟩ := h.shape
  clear h hz hf
  go_enter Try.func16, Try.ntmps16
  go_wp2_with fail
  with_reducible refine CL.out.mono ?_
  rintro e w1 ⟨v1, rfl, hb1, ho1⟩
  have B1 := Lib.hid hb1
  have O1 := Lib.hid ho1
  have hw1 := wrow_of_own ho1
  obtain ⟨ao1, cap1, rfl⟩ := hw1.shape
  have D1 := Lib.hid (PD.out w1 _ hw1)
  clear hb1 ho1 hw1 CL PD
  go_wp2_with fail
  with_reducible refine D1.out.mono ?_
  rintro e w2 ⟨hb, rfl, h2, hd2⟩
  have O2 := Lib.hid (own_below O1.out h2)
  have B2 := Lib.hid (below_tr B1.out h2)
  have HL := Lib.hid (show w1.heap.size ≤ hb from (hd2.lt hb rfl).1)
  have DD := Lib.hid (show w2.ownsRow w.heap.size 3 1 (.slice (some ⟨hb, 0, none⟩) l.length l.length) l.length (natC (deepI l)) from own_lower hd2 B1.out.size)
  have O1L := Lib.hid (show ∀ k, (Value.slice ao1 l.length cap1).ownBlock = some k → k < w1.heap.size from fun k hk => (O1.out.lt k hk).2)
  clear h2 hd2 D1
  have BX := Lib.hid (below_al (Below.refl w2.heap.size w2) (.cells #[.slice ao1 l.length cap1, .slice (some ⟨hb, 0, none⟩) l.length l.length] 53))
  have NX := Lib.hid (heap_alloc_new w2 (.cells #[.slice ao1 l.length cap1, .slice (some ⟨hb, 0, none⟩) l.length l.length] 53))
  have B3 := Lib.hid (below_tr B2.out BX.out)
  have O3 := Lib.hid (own_below O2.out BX.out)
  have D3 := Lib.hid (own_below DD.out BX.out)
  by_cases hn : l.length = 0
  · have hl0 : l = [] := List.eq_nil_of_length_eq_zero hn
    subst hl0
    have T0 := Lib.hid (show topL [] = [] from rfl)
    have S0 := Lib.hid (fun W => pStable0 W ao1 cap1 (.slice (some ⟨hb, 0, none⟩) 0 0))
    have C0 := Lib.hid (show (w2.alloc (.cells #[.slice ao1 0 cap1, .slice (some ⟨hb, 0, none⟩) 0 0] 53)).cell? ⟨w2.heap.size, 0, none⟩ = some (.slice ao1 0 cap1) from by
      have h9 := NX.out
      simp only [List.length_nil] at h9
      rw [cell_of_row _ _ 0 _ _ _ h9]; rfl)
    go_wp2_with fail
    with_reducible refine (S0.out _).mono ?_
    rintro e w4 ⟨rfl, rfl⟩
    have c0 := C0.out
    go_wp2_with fail
    go_ret
    exact ⟨_, rfl, B3.out, O3.out⟩
  · obtain ⟨g, rfl⟩ : ∃ g, ao1 = some ⟨g, 0, none⟩ := by
      rcases O1.out.2 with ⟨e, h0⟩ | ⟨g, cap', cur, e, _⟩
      · omega
      · simp only [Value.slice.injEq] at e
        exact ⟨g, e.1⟩
    have hgl := O1L.out g rfl
    have S3 := Lib.hid (srt_of HF.out O3.out (by omega) D3.out (by have := HL.out; omega))
    have hgq : w2.heap.size ≠ g := by have := (O2.out.lt g rfl).2; omega
    have hhq : w2.heap.size ≠ hb := by have := (DD.out.lt hb rfl).2; omega
    have hgB := (O1.out.lt g rfl).1
    have hhB : w.heap.size ≤ hb := (DD.out.lt hb rfl).1
    have C0 := Lib.hid (ST.out _ g hb cap1 S3.out)
    go_wp2_with fail
    with_reducible refine C0.out.mono ?_
    rintro e w4 ⟨rfl, k4, f4, s4, p4, t4⟩
    have SP := Lib.hid (sorted_top HF.out p4 t4)
    have NQ := Lib.hid ((k4.block w2.heap.size (World.lt_of_heap NX.out) hgq hhq).trans NX.out)
    have c0 : w4.cell? ⟨w2.heap.size, 0, none⟩ = some (.slice (some ⟨g, 0, none⟩) l.length cap1) := by rw [cell_of_row _ _ 0 _ _ _ NQ.out]; rfl
    have B4 := Lib.hid (k4.below B3.out (Nat.le_refl _) hgB hhB)
    have O4 := Lib.hid (show w4.ownsRow w.heap.size 39 5 (.slice (some ⟨g, 0, none⟩) (topL l).length cap1) (topL l).length (w5s (topL l)) from by
      rcases O3.out.2 with ⟨e, h0⟩ | ⟨g', cap', cur, e, hbb, hgg, hc1, hc2, hc3, _⟩
      · omega
      · simp only [Value.slice.injEq, Option.some.injEq, Addr.mk.injEq, and_true, true_and] at e
        obtain ⟨rfl, rfl⟩ := e
        obtain ⟨cur', e1, e2⟩ := k4.kind g cur 39 hgg
        refine own_of_cells hbb e1 (by rw [e2]; exact hc3) (by rw [TL.out]; exact hc1) hc2 (fun k u hu => ?_)
        rw [← SP.out, List.getElem?_map] at hu
        have hk : k < l.length := by have h3 := (List.getElem?_eq_some_iff.1 (by rw [List.getElem?_map]; exact hu : ((List.range l.length).map (fun k => (f4 k).1))[k]? = some u)).1; simpa using h3
        rw [List.getElem?_range hk] at hu
        simp only [Option.map_some, Option.some.injEq] at hu
        rw [← hu]
        exact s4.w5 k hk)
    rw [TL.out] at O4
    clear k4 s4 p4 t4
    go_wp2_with fail
    go_ret
    exact ⟨_, rfl, B4.out, by rw [TL.out]; exact O4.out⟩
end
end Go.Proofs.Ytmiadhcmhnjmfaa
