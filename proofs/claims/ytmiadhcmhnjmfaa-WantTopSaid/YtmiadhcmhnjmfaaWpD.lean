/- Package want: deepen, walked. -/
import Derived.Test.YtmiadhcmhnjmfaaWpC
namespace Go.Proofs.Ytmiadhcmhnjmfaa
open Go.RowKit
set_option linter.unusedVariables false
set_option linter.unusedSimpArgs false
/-- The result's own block. -/
def ResB (wr : World) (b : Nat) : Prop := wr.heap[b]? = some (.cells #[.slice none 0 0, .slice none 0 0] 53 (0, 0))
theorem ResB.cells {wr : World} {b : Nat} (h : ResB wr b) : (wr.cell? ⟨b, 0, none⟩ = some (.slice none 0 0) ∧ wr.cell? ⟨b, 1, none⟩ = some (.slice none 0 0)) ∧ wr.frozen? ⟨b, 0, none⟩ = false ∧ wr.frozen? ⟨b, 1, none⟩ = false :=
  ⟨⟨by rw [cell_of_row _ _ 0 _ _ _ h]; rfl, by rw [cell_of_row _ _ 1 _ _ _ h]; rfl⟩, frozen_of_row _ _ 0 _ _ h, frozen_of_row _ _ 1 _ _ h⟩
def OutRel (w : World) (g h : Nat) (l : List W5) (m : Nat) (rv dv : Value) (wr : World) : Prop :=
  ∃ (f k : Nat) (d : DataW Value) (V : ByteArray → Value) (del : List ByteArray) (row ds : List Nat), dv = .int .i64 (k : Int) ∧ f ≤ m ∧ f + k = l.length + 1 ∧ Below w.heap.size w wr ∧ GoDown w wr g h l.length l d V del rv row nilS [] ds ∧ ResB wr w.heap.size ∧ rv.ownBlock ≠ some w.heap.size ∧ (∀ x, (V x).ownBlock ≠ some w.heap.size) ∧
    (∀ i ∈ row, i < l.length) ∧ potI l del + row.length ≤ f ∧ ds.length = l.length ∧ Hid (outerI l f row del ds k = deepI l)
def InnRel (w : World) (g h : Nat) (l : List W5) (rv : Value) (row : List Nat) (k : Nat) (out : List ByteArray × List Nat × List Nat) (m : Nat) (iv nv : Value) (wr : World) : Prop :=
  ∃ (j : Nat) (d : DataW Value) (V : ByteArray → Value) (del : List ByteArray) (nx ds : List Nat), iv = .int .i64 (j : Int) ∧ row.length - j ≤ m ∧ j ≤ row.length ∧ Below w.heap.size w wr ∧ GoDown w wr g h l.length l d V del rv row nv nx ds ∧ ResB wr w.heap.size ∧ (∀ x, (V x).ownBlock ≠ some w.heap.size) ∧ nv.ownBlock ≠ some w.heap.size ∧
    potI l del + nx.length ≤ l.length ∧ ds.length = l.length ∧ (∀ i ∈ nx, i < l.length) ∧ Hid (innerI l k (row.drop j) del nx ds = out)
theorem drop_cons {row : List Nat} {j i : Nat} (h : row[j]? = some i) : row.drop j = i :: row.drop (j + 1) := by
  obtain ⟨hj, rfl⟩ := List.getElem?_eq_some_iff.1 h
  exact List.drop_eq_getElem_cons hj
section
variable (w : World)
set_option maxHeartbeats 8000000 in
set_option maxRecDepth 20000 in
theorem pdeepen (l : List W5) (lv : Value) (h : WRow w l lv) (hl : l.length ≤ 1000) (hz : ∀ u ∈ l, u.name.size ≤ 1000000 ∧ u.parent.size ≤ 1000000) :
    Calls Try.prog 27 #[lv] w fun e w' => ∃ h, e = .returned (.agg #[lv, .slice (some ⟨h, 0, none⟩) l.length l.length]) ∧ Below w.heap.size w w' ∧ w'.ownsRow w.heap.size 3 1 (.slice (some ⟨h, 0, none⟩) l.length l.length) l.length (natC (deepI l)) := by
  have H := Lib.hid h
  have HZ := Lib.hid hz
  have PB := Lib.hid (fun W (hW : Below w.heap.size w W) => pbelow W l lv (h.below hW) hl hz)
  have hm1 : ∀ W : World, (Instr.makeSlice 51 (.int .i64 (l.length : Int)) (.int .i64 (l.length : Int))).run Try.prog W = .ok (.slice (some ⟨W.heap.size, 0, none⟩) l.length l.length) (W.alloc (.cells (madeCells #[.int .i64 0] l.length) 3)) := fun W => by
    obtain ⟨i0, hi0, hz0, hz1, hz2⟩ := info_partsT info_int
    have := run_make (P := Try.prog) W 51 3 i0 (.int .i64 0) Try.underlying51 hi0 hz0 .i64 .i64 l.length l.length (by omega) (Int.le_refl _) (by rw [hz2]; omega) (by omega)
    rw [hz1, Int.toNat_natCast, Nat.mul_one] at this
    exact this
  obtain ⟨i0, hi0, hz0, hz1, hz2⟩ := info_partsT info_int
  obtain ⟨ao, cap, rfl, h1, h2, hat⟩ := h
  have HAT := Lib.hid hat
  clear hat h1 h2 hz
  go_enter Try.func27, Try.ntmps27
  go_wp2_with fail
  have B2 := Lib.hid (below_al (below_al (Below.refl w.heap.size w) (.cells #[.slice none 0 0, .slice none 0 0] 53)) (.cells (madeCells #[.int .i64 0] l.length) 3))
  have Z2 := Lib.hid (show ((w.alloc (.cells #[.slice none 0 0, .slice none 0 0] 53)).alloc (.cells (madeCells #[.int .i64 0] l.length) 3)).heap.size = w.heap.size + 2 by simp)
  have RB2 := Lib.hid (show ResB ((w.alloc (.cells #[.slice none 0 0, .slice none 0 0] 53)).alloc (.cells (madeCells #[.int .i64 0] l.length) 3)) w.heap.size from (heap_alloc_old _ _ (by simp)).trans (heap_alloc_new w _))
  have D2 := Lib.hid (show ((w.alloc (.cells #[.slice none 0 0, .slice none 0 0] 53)).alloc (.cells (madeCells #[.int .i64 0] l.length) 3)).ownsRow w.heap.size 3 1 (.slice (some ⟨w.heap.size + 1, 0, none⟩) l.length l.length) l.length (natC (List.replicate l.length 0)) by
    have e1 : (madeCells #[Value.int .i64 0] l.length).toList = natC (List.replicate l.length 0) := by
      have := toList_madeCells_one (.int .i64 0) l.length
      exact this.trans (by simp [natC])
    have z1 : (madeCells #[Value.int .i64 0] l.length).size = l.length := by rw [← Array.length_toList, e1]; simp [natC]
    exact ⟨by simp [natC], .inr ⟨w.heap.size + 1, l.length, _, rfl, by omega, heap_at (by simp), Nat.le_refl _, by unfold maxLen; omega, by omega, by rw [← e1]; exact List.take_of_length_le (by simp [z1])⟩⟩)
  generalize (w.alloc (.cells #[.slice none 0 0, .slice none 0 0] 53)).alloc (.cells (madeCells #[.int .i64 0] l.length) 3) = w2 at *
  with_reducible refine (PB.out w2 B2.out).mono ?_
  rintro e w3 ⟨rfl, hb3, d, V, hM⟩
  rw [Z2.out] at hM hb3 ⊢
  have M3 := Lib.hid hM
  have B3 := Lib.hid (B2.out.trans (hb3.mono (by omega)))
  have R3 := Lib.hid (show ResB w3 w.heap.size from (hb3.block w.heap.size (by omega)).trans RB2.out)
  have D3 := Lib.hid (show w3.ownsRow w.heap.size 3 1 (.slice (some ⟨w.heap.size + 1, 0, none⟩) l.length l.length) l.length (natC (List.replicate l.length 0)) by
    have := own_below D2.out (by rw [Z2.out]; exact hb3)
    exact this)
  obtain ⟨vo, vc, hV⟩ := own_shape (hM.row ⟨#[]⟩)
  have AT := Lib.hid (hM.at' ⟨#[]⟩)
  have lk := look_below (W := w3) hM.map (s := ⟨#[]⟩) (by decide) AT.out
  rw [hV] at lk
  clear hM hb3 AT
  go_wp2_with (first | (at_delete; refine wpList_delete_own _ rfl _ _ 62 9 rfl 51 strKeyedW Try.underlying62 heldW (w.heap.size + 2) l.length d rfl M3.out.map (.string ⟨#[]⟩) (keyW ⟨#[]⟩) rfl (Go.WideMaps.keyOf_string_mk Try.underlying9 (by decide)) ?_; intro w4 hown4 hturn4))
  have G4 := Lib.hid (GoDown.start M3.out (by omega) (Nat.le_succ _) D3.out hown4 hturn4.grown)
  rw [hV] at G4
  have B4 := Lib.hid (below_grown' B3.out hturn4.grown (fun k e => by simp at e; omega))
  have R4 := Lib.hid (show ResB w4 w.heap.size from (hturn4.grown.block w.heap.size (by have := B3.out.size; have : w.heap.size + 1 < w3.heap.size := (D3.out.lt (w.heap.size + 1) rfl).2; omega) (by simp)).trans R3.out)
  have VL := Lib.hid (show ∀ x, (V x).ownBlock ≠ some w.heap.size from fun x hx => by have := ((M3.out.row x).lt _ hx).1; omega)
  have P0 := Lib.hid (show potI l [⟨#[]⟩] + (kidsI l ⟨#[]⟩ l.length).length ≤ l.length from by
    have h1 := pot_del l [] ⟨#[]⟩
    have h2 := pot_start l
    rw [left_nil] at h1
    have h3 : potI l [] = potI l [⟨#[]⟩] + (kidsI l ⟨#[]⟩ l.length).length := h1
    omega)
  have V0 := Lib.hid (show (Value.slice vo (kidsI l ⟨#[]⟩ l.length).length vc).ownBlock ≠ some w.heap.size by rw [← hV]; exact VL.out _)
  clear hown4 hturn4 lk
  generalize hrow : kidsI l ⟨#[]⟩ l.length = row0 at *
  have S0 := Lib.hid (show OutRel w (w.heap.size + 2) (w.heap.size + 1) l l.length (.slice vo row0.length vc) (.int .i64 1) w4 from
    ⟨l.length, 1, _, _, _, row0, _, rfl, Nat.le_refl _, rfl, B4.out, G4.out, R4.out, V0.out, (fun x => by
      by_cases hx : x = ⟨#[]⟩
      · simp [hx, Value.ownBlock]
      · simp only [if_neg hx]; exact VL.out x), fun i hi => by rw [← hrow] at hi; exact (kidsI_mem.1 hi).1, P0.out, by simp, Lib.hid (by unfold deepI; rw [hrow])⟩)
  clear M3 B3 R3 D3 hV G4 B4 R4 VL P0 V0 B2 Z2 RB2 D2 hrow PB
  go_loopg [5, 6] l.length (fun m rv dv wr => OutRel w (w.heap.size + 2) (w.heap.size + 1) l m rv dv wr)
  case atStart => exact S0.out
  case round =>
    obtain ⟨f, kd, d, V, del, row, ds, rfl, hfm, hfk, hb, hG, hR, hrv, hVr, hrow, hpot, hds, hO⟩ := hrel
    have FM := Lib.hid hfm
    have BR := Lib.hid hb
    have GR := Lib.hid hG
    have RR := Lib.hid hR
    have RVR := Lib.hid hrv
    have VR := Lib.hid hVr
    have ROW := Lib.hid hrow
    have POT := Lib.hid hpot
    have DS := Lib.hid hds
    obtain ⟨ro, rc, rfl⟩ := own_shape hG.row
    clear hfm hb hG hR hrv hVr hrow hpot hds S0
    by_cases hr0 : row.length = 0
    · have E := Lib.hid (show ds = deepI l by
        have := hO.out
        rwa [List.eq_nil_of_length_eq_zero hr0, outer_nil] at this)
      obtain ⟨⟨c0, c1⟩, f0, f1⟩ := RR.out.cells
      clear hO
      have OW := Lib.hid (show ((wr.setCell ⟨w.heap.size, 0, none⟩ (.slice ao l.length cap)).setCell ⟨w.heap.size, 1, none⟩ (.slice (some ⟨w.heap.size + 1, 0, none⟩) l.length l.length)).ownsRow w.heap.size 3 1 (.slice (some ⟨w.heap.size + 1, 0, none⟩) l.length l.length) l.length (natC (deepI l)) from by
        rw [← E.out]
        exact ownsRow_setCell_other (ownsRow_setCell_other GR.out.dep (by simp [Value.ownBlock]) _) (by simp [Value.ownBlock]) _)
      have BE := Lib.hid (show Below w.heap.size w ((wr.setCell ⟨w.heap.size, 0, none⟩ (.slice ao l.length cap)).setCell ⟨w.heap.size, 1, none⟩ (.slice (some ⟨w.heap.size + 1, 0, none⟩) l.length l.length)) from (BR.out.setCell (Nat.le_refl _) _).setCell (Nat.le_refl _) _)
      go_wp2_with fail
      exact bodyPost_ret (v := .agg #[.slice ao l.length cap, .slice (some ⟨w.heap.size + 1, 0, none⟩) l.length l.length]) (by simp [results, Try.results27, go_sem, c0, c1, f0, f1]) rfl ⟨w.heap.size + 1, rfl, BE.out, OW.out⟩
    · obtain ⟨f, rfl⟩ : ∃ f', f = f' + 1 := ⟨f - 1, by have := POT.out; omega⟩
      have hrn : row ≠ [] := fun e => hr0 (by rw [e]; rfl)
      have gp : 0 < row.length := by omega
      have rl : row.length ≤ 2000 := by have := POT.out; omega
      have O2 := Lib.hid (show outerI l f (innerI l kd row del [] ds).2.1 (innerI l kd row del [] ds).1 (innerI l kd row del [] ds).2.2 (kd + 1) = deepI l from by
        have := hO.out
        rwa [outer_more hrn] at this)
      have IP := Lib.hid (inner_pot l kd row del [] ds)
      have IL := Lib.hid (inner_len l kd row del [] ds)
      obtain ⟨out, hout⟩ : ∃ out, out = innerI l kd row del [] ds := ⟨_, rfl⟩
      rw [← hout] at O2 IP IL
      have I0 := Lib.hid (show InnRel w (w.heap.size + 2) (w.heap.size + 1) l (.slice ro row.length rc) row kd out row.length (.int .i64 0) nilS wr from
        ⟨0, d, V, del, [], ds, rfl, Nat.le_refl _, Nat.zero_le _, BR.out, GR.out, RR.out, VR.out, by simp [Value.ownBlock], by have := POT.out; simp; omega, DS.out, (fun i hi => by cases hi), Lib.hid (by rw [List.drop_zero]; exact hout.symm)⟩)
      clear hO hout BR GR RR VR DS hrn
      go_wp2_with fail
      go_loopg [25, 7] row.length (fun m iv nv wr => InnRel w (w.heap.size + 2) (w.heap.size + 1) l (.slice ro row.length rc) row kd out m iv nv wr)
      case atStart => exact I0.out
      case round =>
        obtain ⟨j, d, V, del, nx, ds, rfl, hm, hj, hb, hG, hR, hVr, hnv, hpot, hds, hnx, hI⟩ := hrel
        have HM := Lib.hid hm
        have BR := Lib.hid hb
        have GR := Lib.hid hG
        have RR := Lib.hid hR
        have VR := Lib.hid hVr
        have NVR := Lib.hid hnv
        have POT2 := Lib.hid hpot
        have DS := Lib.hid hds
        have NXL := Lib.hid hnx
        clear hm hb hG hR hVr hnv hpot hds hnx I0
        by_cases hjl : j < row.length
        · obtain ⟨i, hi⟩ : ∃ i, row[j]? = some i := ⟨_, List.getElem?_eq_getElem hjl⟩
          have hil := ROW.out i (List.mem_of_getElem? hi)
          obtain ⟨u, hu⟩ : ∃ u, l[i]? = some u := ⟨_, List.getElem?_eq_getElem hil⟩
          have HU := Lib.hid hu
          have I2 := Lib.hid (show innerI l kd (row.drop (j + 1)) (u.name :: del) (nx ++ leftI l del u.name) (ds.set i kd) = out from by
            have := hI.out
            rwa [drop_cons hi, innerI, nmI_at hu] at this)
          obtain ⟨b, rfl, q0⟩ := own_cell GR.out.row hi
          obtain ⟨di, hdi⟩ : ∃ di, ds[i]? = some di := ⟨_, List.getElem?_eq_getElem (by rw [DS.out]; exact hil)⟩
          have q1 : wr.cell? ⟨w.heap.size + 1, i, none⟩ = some (.int .i64 (di : Int)) := by
            rw [GR.out.dep.cellAt i (by omega)]; exact natC_at hdi
          have q2 := GR.out.dep.frozenAt i
          have G1 := Lib.hid (GR.out.put i kd)
          have B1 := Lib.hid (show Below w.heap.size w (wr.setCell ⟨w.heap.size + 1, i, none⟩ (.int .i64 (kd : Int))) from BR.out.setCell (by show w.heap.size ≤ w.heap.size + 1; omega) _)
          have R1 := Lib.hid (show ResB (wr.setCell ⟨w.heap.size + 1, i, none⟩ (.int .i64 (kd : Int))) w.heap.size from (heap_setCell_other wr ⟨w.heap.size + 1, i, none⟩ w.heap.size _ (by show w.heap.size ≠ w.heap.size + 1; omega)).trans RR.out)
          have x0 : (0 : Int) ≤ (i : Int) := by omega
          have x1 : (i : Int) < (l.length : Int) := by omega
          have NS := Lib.hid (show u.name.size ≤ maxLen by have := HZ.out u (List.mem_of_getElem? HU.out); unfold maxLen; omega)
          obtain ⟨gu, ou, rfl, hcu⟩ := HAT.out i u hu
          have n0 := (hcu.below B1.out).1
          have AT := Lib.hid (G1.out.mp.at' u.name)
          have lk := look_below (W := wr.setCell ⟨w.heap.size + 1, i, none⟩ (.int .i64 (kd : Int))) G1.out.mp.map NS.out AT.out
          obtain ⟨no, nc, rfl⟩ := own_shape G1.out.nxt
          have PD := Lib.hid (pot_del l del u.name)
          have LEN := Lib.hid (show (nx ++ leftI l del u.name).length ≤ 1000 by have := PD.out; have := POT2.out; rw [List.length_append]; omega)
          by_cases hL : leftI l del u.name = []
          · have HLL := Lib.hid hL
            have hVn := G1.out.mp.nil u.name hL
            rw [hVn] at lk
            clear hI hu hi hdi GR BR RR hcu hL hVn
            go_wp2_with (first
              | (at_delete; refine wpList_delete_own _ rfl _ _ 62 9 rfl 51 strKeyedW Try.underlying62 heldW (w.heap.size + 2) l.length d rfl G1.out.mp.map (.string u.name) (keyW u.name) rfl (Go.WideMaps.keyOf_string_mk Try.underlying9 NS.out) ?_; intro w4 hown4 hturn4)
              | (at_builtin; refine wpList_append_none _ rfl _ _ 51 rfl w.heap.size 3 i0 1 Try.underlying51 hi0 (.slice no nx.length nc) nx.length (natC nx) rfl G1.out.nxt 0 rfl ?_))
            have NM := Lib.hid (show InnRel w (w.heap.size + 2) (w.heap.size + 1) l (.slice (some ⟨b, 0, none⟩) row.length rc) row kd out (row.length - (j + 1)) (.int .i64 ((j + 1 : Nat) : Int)) (.slice no nx.length nc) w4 from by
              have I3 := I2.out
              have hL2 : leftI l del u.name = [] := HLL.out
              have PD2 := PD.out
              rw [hL2, List.append_nil] at I3
              rw [hL2, List.length_nil, Nat.add_zero] at PD2
              refine ⟨j + 1, _, _, u.name :: del, nx, ds.set i kd, rfl, Nat.le_refl _, hjl, below_grown' B1.out hturn4.grown (fun k e => by simp at e; omega), G1.out.strike hown4 hturn4.grown, (hturn4.grown.block w.heap.size (World.lt_of_heap R1.out) (by simp)).trans R1.out, fun x => ?_, NVR.out, by have := POT2.out; omega, by rw [List.length_set]; exact DS.out, NXL.out, Lib.hid I3⟩
              by_cases hx : x = u.name
              · simp [hx, Value.ownBlock]
              · simp only [if_neg hx]; exact VR.out x)
            clear hown4 hturn4
            go_roundg (row.length - (j + 1))
            case rel => exact NM.out
            case measure => have := HM.out; omega
          · obtain ⟨so, sm, sc, hsv, hsm, hs0, hsc⟩ := own_src (G1.out.mp.row u.name)
            have hpos : 0 < (leftI l del u.name).length := List.length_pos_iff.2 hL
            obtain ⟨sad, rfl⟩ : ∃ sad, so = some sad := by
              cases so with
              | none => exact absurd (hs0 rfl) (by omega)
              | some sad => exact ⟨sad, rfl⟩
            subst hsm
            rw [hsv] at lk
            have SC := Lib.hid (hsc sad rfl)
            have SP := Lib.hid hpos
            have GU := Lib.hid (show (Value.slice no nx.length nc).ownBlock ≠ some gu from fun e => by
              have h1 := (G1.out.nxt.lt gu e).1
              have h2 := World.block_lt_of_cell? _ _ hcu.1
              have h3 : gu < w.heap.size := h2
              omega)
            clear hI hu hi hdi GR BR RR hcu hL hsc hs0 hpos
            go_wp2_with (first
              | (at_delete; refine wpList_delete_own _ rfl _ _ 62 9 rfl 51 strKeyedW Try.underlying62 heldW (w.heap.size + 2) l.length d rfl M6.out (.string u.name) (keyW u.name) rfl (Go.WideMaps.keyOf_string_mk Try.underlying9 NS.out) ?_; intro w4 hown4 hturn4)
              | (at_builtin; go_loud (refine wpList_append_lies _ rfl _ _ 51 rfl w.heap.size 3 i0 (.int .i64 0) 1 8 Try.underlying51 hi0 hz0 hz1 hz2 rfl (by decide) (.slice no nx.length nc) nx.length (natC nx) rfl G1.out.nxt sad (leftI l del u.name).length sc (natC (leftI l del u.name)) rfl (by rw [natC_len, Nat.mul_one]) SC.out (natC_one _) SP.out (by have := LEN.out; rw [List.length_append] at this; unfold maxLen; omega) (by have := LEN.out; rw [List.length_append] at this; omega) B1.out.size _ rfl ?_; intro gg cc w6 hown6 hgrow6 hat6 hlt6; have G6 := Lib.hid (G1.out.more (v := .slice (some ⟨gg, 0, none⟩) (nx.length + (leftI l del u.name).length) cc) hgrow6 (ys := leftI l del u.name) (by rw [List.length_append, natC_app]; exact hown6) (hat6.imp (fun e => e) (fun e => congrArg some e))); have M6 := Lib.hid G6.out.mp.map; have n6 := grow_cell hgrow6 n0 GU.out)))
            have NM := Lib.hid (show InnRel w (w.heap.size + 2) (w.heap.size + 1) l (.slice (some ⟨b, 0, none⟩) row.length rc) row kd out (row.length - (j + 1)) (.int .i64 ((j + 1 : Nat) : Int)) (.slice (some ⟨gg, 0, none⟩) (nx.length + (leftI l del u.name).length) cc) w4 from by
              have PD2 := PD.out
              have B6 := below_grown' B1.out hgrow6 (fun q hq => (G1.out.nxt.lt q hq).1)
              have R6 : ResB w6 w.heap.size := (hgrow6.block w.heap.size (World.lt_of_heap R1.out) (fun e => NVR.out e.symm)).trans R1.out
              refine ⟨j + 1, _, _, u.name :: del, nx ++ leftI l del u.name, ds.set i kd, rfl, Nat.le_refl _, hjl, below_grown' B6 hturn4.grown (fun k e => by simp at e; omega), G6.out.strike hown4 hturn4.grown, (hturn4.grown.block w.heap.size (World.lt_of_heap R6) (by simp)).trans R6, fun x => ?_, ?_, by have := POT2.out; rw [List.length_append]; omega, by rw [List.length_set]; exact DS.out, fun q hq => ?_, I2⟩
              · by_cases hx : x = u.name
                · simp [hx, Value.ownBlock]
                · simp only [if_neg hx]; exact VR.out x
              · rcases hat6 with e | e
                · exact fun h => NVR.out (e.trans h)
                · have hz2 := World.lt_of_heap R1.out
                  intro h
                  have h2 : gg = w.heap.size := by simpa [Value.ownBlock] using h
                  omega
              · rcases List.mem_append.1 hq with hq | hq
                · exact NXL.out q hq
                · exact left_lt hq)
            clear hown4 hturn4 hown6 hgrow6 hat6
            go_roundg (row.length - (j + 1))
            case rel => exact NM.out
            case measure => have := HM.out; omega
        · obtain rfl : j = row.length := by omega
          have EO := Lib.hid (show (del, nx, ds) = out from by
            have := hI.out
            rwa [List.drop_length, innerI] at this)
          obtain ⟨no, nc, rfl⟩ := own_shape GR.out.nxt
          have NM := Lib.hid (show OutRel w (w.heap.size + 2) (w.heap.size + 1) l f (.slice no nx.length nc) (.int .i64 ((kd + 1 : Nat) : Int)) wr from by
            have O3 := O2.out
            have IP3 := IP.out
            rw [← EO.out] at O3 IP3
            simp only [List.length_nil, Nat.add_zero] at IP3
            exact ⟨f, kd + 1, d, V, del, nx, ds, rfl, Nat.le_refl _, by omega, BR.out, GR.out.turn, RR.out, NVR.out, VR.out, NXL.out, by have := POT.out; omega, DS.out, Lib.hid O3⟩)
          have kl : kd ≤ 2000 := by omega
          clear hI EO
          go_wp2_with fail
          go_roundg f
          case rel => exact NM.out
          case measure => have := FM.out; omega
end
end Go.Proofs.Ytmiadhcmhnjmfaa
