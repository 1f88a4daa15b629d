/- Package want: sums. -/
import Derived.Test.YtmiadhcmhnjmfaaWpF
namespace Go.Proofs.Ytmiadhcmhnjmfaa
open Go.RowKit
set_option linter.unusedVariables false
set_option linter.unusedSimpArgs false
theorem vrow_at (l : List V3) : ∀ (i r : Nat) (u : V3), l[i]? = some u → r < 3 → (l.flatMap V3.cells).toArray[0 + i * 3 + r]? = u.cells[r]? := by
  simp only [Nat.zero_add, List.getElem?_toArray]
  induction l with
  | nil => intro i r u hu; simp at hu
  | cons x l ih =>
    intro i r u hu hr
    cases i with
    | zero =>
      simp at hu; subst hu
      rw [List.flatMap_cons, Nat.zero_mul, Nat.zero_add, List.getElem?_append_left (by simpa [V3.cells] using hr)]
    | succ i =>
      have h := ih i r u (by simpa using hu) hr
      rw [List.flatMap_cons, List.getElem?_append_right (by simp [V3.cells]; omega), ← h]
      congr 1
      simp [V3.cells]; omega
theorem vrow_new {w : World} {g : Nat} (l : List V3) (h : w.heap[g]? = some (.cells (l.flatMap V3.cells).toArray 37 (0, 0))) : VRow w l (.slice (some ⟨g, 0, none⟩) l.length l.length) := by
  refine ⟨_, _, rfl, Nat.le_refl _, fun i u hu => ⟨g, 0, rfl, ?_, ?_, ?_⟩⟩
  · rw [cell_of_row _ _ _ _ _ _ h]
    exact (vrow_at l i 0 u hu (by omega)).trans rfl
  · rw [cell_of_row _ _ _ _ _ _ h]
    exact (vrow_at l i 1 u hu (by omega)).trans rfl
  · rw [cell_of_row _ _ _ _ _ _ h]
    exact (vrow_at l i 2 u hu (by omega)).trans rfl
/-- The limits at these places, added up. -/
def limI (l : List W5) (i : Nat) : V3 := match l[i]? with | some x => x.lim | none => z3
def sumI (l : List W5) (ks : List Nat) : V3 := ks.foldl (fun v i => addV v (limI l i)) z3
theorem sumI_snoc (l : List W5) (ks : List Nat) (i : Nat) : sumI l (ks ++ [i]) = addV (sumI l ks) (limI l i) := by unfold sumI; rw [List.foldl_append]; rfl
theorem sumI_kids {l : List W5} (s : ByteArray) : ∀ k, k ≤ l.length → sumI l (kidsI l s k) = kidsTo l s k
  | 0, _ => rfl
  | k + 1, h => by
    have hx := List.getElem?_eq_getElem (show k < l.length by omega)
    rw [kidsI_step hx, kidsTo_step hx]
    split
    · rw [sumI_snoc, sumI_kids s k (by omega)]
      unfold limI; rw [hx]
    · exact sumI_kids s k (by omega)
theorem limI_upto {l : List W5} (hm : ∀ y ∈ l, mayV y.lim = true) (i : Nat) : (limI l i).Upto 1099511627776 := by
  unfold limI
  split
  · rename_i x hx
    have := may_bounds (hm x (List.mem_of_getElem? hx))
    unfold V3.Upto; omega
  · unfold V3.Upto z3; simp only; omega
theorem sumI_upto {l : List W5} (hm : ∀ y ∈ l, mayV y.lim = true) : ∀ (ks : List Nat) (j : Nat), j ≤ ks.length → (sumI l (ks.take j)).Upto ((j : Int) * 1099511627776)
  | ks, 0, _ => by simp [sumI, V3.Upto, z3]
  | ks, j + 1, h => by
    have ih := sumI_upto hm ks j (by omega)
    have hx := List.getElem?_eq_getElem (show j < ks.length by omega)
    rw [List.take_add_one, hx]
    simp only [Option.toList_some]
    rw [sumI_snoc]
    have hb := limI_upto hm ks[j]
    unfold V3.Upto addV at *
    simp only
    omega
theorem sumI_step {l : List W5} {ks : List Nat} {j i : Nat} {x : W5} (hj : ks[j]? = some i) (hx : l[i]? = some x) : sumI l (ks.take (j + 1)) = addV (sumI l (ks.take j)) x.lim := by
  rw [List.take_add_one, hj]
  simp only [Option.toList_some]
  rw [sumI_snoc]
  unfold limI; rw [hx]
theorem two_sum (x y : V3) : sumV [x, y] = addV x y := by unfold sumV; simp [addV, z3]
section
variable (w : World)
set_option maxHeartbeats 16000000 in
set_option maxRecDepth 20000 in
theorem psums (l : List W5) (lv : Value) (h : WRow w l lv) (hl : l.length ≤ 1000) (hz : ∀ u ∈ l, u.name.size ≤ 1000000 ∧ u.parent.size ≤ 1000000) (hm : ∀ y ∈ l, mayV y.lim = true) :
    Calls Try.prog 31 #[lv] w (Made (.int .i64 (scanE (c4W l) 0 l)) w) := by
  have HZ := Lib.hid hz
  have HMY := Lib.hid hm
  have PB := Lib.hid (pbelow w l lv h hl hz)
  obtain ⟨ao, cap, rfl, h1, h2, hat⟩ := h
  have HAT := Lib.hid hat
  clear hat h1 h2 hz hm
  go_enter Try.func31, Try.ntmps31
  go_wp2_with fail
  with_reducible refine PB.out.mono ?_
  rintro e w1 ⟨rfl, hb1, d, V, hM⟩
  have B1 := Lib.hid hb1
  have MI := Lib.hid hM
  clear hb1 hM PB
  go_wp2_with fail
  go_loopg [13] l.length (fun m iv wr => ∃ k : Nat, iv = .int .i64 k ∧ l.length - k ≤ m ∧ k ≤ l.length ∧ Below w1.heap.size w1 wr ∧ Hid (OKto (c4W l) l k))
  case atStart => exact ⟨0, rfl, Nat.le_refl _, Nat.zero_le _, Below.refl _ _, Lib.hid (OKto.zero _ _)⟩
  case round =>
    obtain ⟨k, rfl, hm, hk, hb, OK⟩ := hrel
    have HM := Lib.hid hm
    have BR := Lib.hid hb
    clear hm hb
    by_cases hlt : k < l.length
    · obtain ⟨u, hu⟩ : ∃ u, l[k]? = some u := ⟨_, List.getElem?_eq_getElem hlt⟩
      have HU := Lib.hid hu
      obtain ⟨g, o, rfl, hc⟩ := HAT.out k u hu
      obtain ⟨k0, k1, k2, k3, k4⟩ := (hc.below B1.out).below BR.out
      have NS := Lib.hid (show u.name.size ≤ maxLen by have := (HZ.out u (List.mem_of_getElem? hu)).1; unfold maxLen; omega)
      have BX := Lib.hid (below_al BR.out (.cells #[.string u.name, .string u.parent, .int .i64 u.lim.c, .int .i64 u.lim.m, .int .i64 u.lim.p] 39))
      have BY := Lib.hid (below_al BX.out (.cells #[.int .i64 0, .int .i64 0, .int .i64 0] 37))
      have NX := Lib.hid (heap_alloc_new wr (.cells #[.string u.name, .string u.parent, .int .i64 u.lim.c, .int .i64 u.lim.m, .int .i64 u.lim.p] 39))
      have LM := Lib.hid (MI.out.at' u.name)
      have lk := look_below (W := (wr.alloc (.cells #[.string u.name, .string u.parent, .int .i64 u.lim.c, .int .i64 u.lim.m, .int .i64 u.lim.p] 39)).alloc (.cells #[.int .i64 0, .int .i64 0, .int .i64 0] 37)) (ownsMap_below MI.out.map (BY.out.block w.heap.size MI.out.lt)) NS.out LM.out
      have KR := Lib.hid (MI.out.row u.name)
      obtain ⟨vo, vc, hV⟩ := own_shape (MI.out.row u.name)
      rw [hV] at lk KR
      have KL := Lib.hid (kidsI_len l u.name l.length)
      have KLT := Lib.hid (show ∀ i ∈ kidsI l u.name l.length, i < l.length from fun i hi => (kidsI_mem.1 hi).1)
      have KS := Lib.hid (show sumI l (kidsI l u.name l.length) = kidsV l u.name from (sumI_kids u.name l.length (Nat.le_refl _)).trans (kidsTo_all l u.name))
      clear hu hc hV
      generalize kidsI l u.name l.length = ks at *
      have kl : ks.length ≤ 1000 := by have := KL.out; omega
      go_wp2_with fail
      have WB := Lib.hid (show ((wr.alloc (.cells #[.string u.name, .string u.parent, .int .i64 u.lim.c, .int .i64 u.lim.m, .int .i64 u.lim.p] 39)).alloc (.cells #[.int .i64 0, .int .i64 0, .int .i64 0] 37)).heap[wr.heap.size]? = some (.cells #[.string u.name, .string u.parent, .int .i64 u.lim.c, .int .i64 u.lim.m, .int .i64 u.lim.p] 39 (0, 0)) from (heap_alloc_old _ _ (by simp)).trans NX.out)
      have SB := Lib.hid (show CBlk ((wr.alloc (.cells #[.string u.name, .string u.parent, .int .i64 u.lim.c, .int .i64 u.lim.m, .int .i64 u.lim.p] 39)).alloc (.cells #[.int .i64 0, .int .i64 0, .int .i64 0] 37)) (wr.heap.size + 1) z3 from heap_at (by simp))
      clear NX BX k0 k1 k2 k3 k4 lk
      have LO := Lib.hid BR.out.size
      generalize hwz : wr.heap.size = wz at *
      generalize hgen : (wr.alloc (.cells #[.string u.name, .string u.parent, .int .i64 u.lim.c, .int .i64 u.lim.m, .int .i64 u.lim.p] 39)).alloc (.cells #[.int .i64 0, .int .i64 0, .int .i64 0] 37) = wy at *
      clear hgen
      have hwl : w1.heap.size ≤ wz := LO.out
      go_loopg [22] ks.length (fun m iv ws => ∃ j : Nat, iv = .int .i64 j ∧ ks.length - j ≤ m ∧ j ≤ ks.length ∧ Below w1.heap.size w1 ws ∧ ws.heap[wz]? = some (.cells #[.string u.name, .string u.parent, .int .i64 u.lim.c, .int .i64 u.lim.m, .int .i64 u.lim.p] 39 (0, 0)) ∧ CBlk ws (wz + 1) (sumI l (ks.take j)))
      case atStart => exact ⟨0, rfl, Nat.le_refl _, Nat.zero_le _, BY.out, WB.out, SB.out⟩
      case round =>
        obtain ⟨j, rfl, hm2, hj, hb2, hw2, hc2⟩ := hrel
        have HM2 := Lib.hid hm2
        have BS := Lib.hid hb2
        have WS := Lib.hid hw2
        have CS := Lib.hid hc2
        clear hm2 hb2 hw2 hc2
        obtain ⟨t0, t1, t2, tl⟩ := CS.out.cells
        by_cases hjl : j < ks.length
        · obtain ⟨i, hi⟩ : ∃ i, ks[j]? = some i := ⟨_, List.getElem?_eq_getElem hjl⟩
          have hil := KLT.out i (List.mem_of_getElem? hi)
          obtain ⟨y, hy⟩ : ∃ y, l[i]? = some y := ⟨_, List.getElem?_eq_getElem hil⟩
          obtain ⟨b, rfl, q0'⟩ := own_cell KR.out hi
          have q0 := hold BS.out q0'
          obtain ⟨g', o', e', hat⟩ := HAT.out i y hy
          simp only [Option.some.injEq, Addr.mk.injEq, and_true] at e'
          obtain ⟨rfl, rfl⟩ := e'
          obtain ⟨y0, y1, y2, y3, y4⟩ := (hat.below B1.out).below BS.out
          have EN := Lib.hid (sumI_step hi hy)
          have UP := Lib.hid (sumI_upto HMY.out ks j hj)
          have YB := Lib.hid (may_bounds (HMY.out y (List.mem_of_getElem? hy)))
          obtain ⟨s0, hs0⟩ : ∃ s0, s0 = sumI l (ks.take j) := ⟨_, rfl⟩
          rw [← hs0] at EN UP CS t0 t1 t2
          have AD := Lib.hid (show ∀ W lv, VRow W [s0, y.lim] lv → Calls Try.prog 39 #[lv] W (Made (.agg #[.int .i64 (addV s0 y.lim).c, .int .i64 (addV s0 y.lim).m, .int .i64 (addV s0 y.lim).p]) W) from fun W lv hr => by
            have := vadd_any W [s0, y.lim] lv hr (by simp) (by
              have := UP.out
              have := YB.out
              simp only [List.mem_cons, List.not_mem_nil, or_false]
              rintro v (rfl | rfl)
              · unfold V3.Upto at *; omega
              · unfold V3.Upto; omega)
            rwa [two_sum] at this)
          obtain ⟨s1, hs1⟩ : ∃ s1, s1 = addV s0 y.lim := ⟨_, rfl⟩
          rw [← hs1] at AD EN
          have x0 : (0 : Int) ≤ (i : Int) := by omega
          have x1 : (i : Int) < (l.length : Int) := by omega
          clear hi hy hat y0 y1 q0' UP YB hs0 hs1
          go_wp2_with fail
          refine wp_region_mono_tail 8 (by kernel_rfl) (by kernel_rfl) (Nat.le_of_ble_eq_true (by kernel_rfl)) (by kernel_rfl) ?_
          simp only [List.map_cons, List.map_nil]
          simp only [List.take_succ_cons, List.take_zero, List.drop_succ_cons, List.drop_zero]
          repeat (first
            | (apply wpM_is
               · (intro us W hW hg K hK
                  clear hg
                  have d0 := hold hW t0
                  have d1 := hold hW t1
                  have d2 := hold hW t2
                  have d3 := hold hW y2
                  have d4 := hold hW y3
                  have d5 := hold hW y4
                  simp only [fillA]
                  go_simp
                  first
                  | exact hK _ (Below.refl _ _))
               simp only [setD, List.set_cons_zero, List.set_cons_succ]))
          refine wpM_any (fun v W => VRow W [s0, y.lim] v) (fun v W W' h hb => h.below hb) ?_ ?_
          · intro us W hW hg K hK
            clear hg
            simp only [fillA]
            go_simp
            exact hK _ _ (vrow_new [s0, y.lim] (heap_alloc_new _ _)) (below_al (Below.refl _ _) _)
          simp only [setD, List.set_cons_zero, List.set_cons_succ]
          apply wpM_is
          · intro us W hW hg K hK
            have h0 := hg 32 (List.elem_iff.1 (by kernel_rfl)) _ rfl
            clear hg
            simp only [fillA]
            go_simp
            (with_reducible refine (AD.out _ _ h0).mono ?_)
            rintro e w' ⟨rfl, hb⟩
            exact hK _ hb
          simp only [setD, List.set_cons_zero, List.set_cons_succ]
          intro us W hW hg
          simp only [fillA]
          clear hg
          have BW := Lib.hid (BS.out.trans (hW.mono BS.out.size))
          have TW := Lib.hid (CS.out.below hW)
          have WW := Lib.hid ((hW.block wz (World.lt_of_heap WS.out)).trans WS.out)
          obtain ⟨e0, e1, e2, el⟩ := TW.out.cells
          have f0 := TW.out.free 0
          have f1 := TW.out.free 1
          have f2 := TW.out.free 2
          clear hW t0 t1 t2 tl y2 y3 y4 q0
          go_wp2_with fail
          go_roundg (ks.length - (j + 1))
          case rel => exact ⟨j + 1, by go_num, Nat.le_refl _, hjl, below_set3 BW.out (by omega) _ _ _, by
            rw [heap_setCell_other _ ⟨wz + 1, 2, none⟩ wz _ (by show wz ≠ wz + 1; omega), heap_setCell_other _ ⟨wz + 1, 1, none⟩ wz _ (by show wz ≠ wz + 1; omega), heap_setCell_other _ ⟨wz + 1, 0, none⟩ wz _ (by show wz ≠ wz + 1; omega)]
            exact WW.out, by rw [EN.out]; exact TW.out.set s1⟩
          case measure => have := HM2.out; omega
        · obtain rfl : j = ks.length := by omega
          obtain ⟨sv, hsv⟩ : ∃ sv, sv = kidsV l u.name := ⟨_, rfl⟩
          rw [List.take_length, KS.out, ← hsv] at CS t0 t1 t2
          have w2 : wr.cell? ⟨wz, 2, none⟩ = some (.int .i64 u.lim.c) := by rw [cell_of_row _ _ 2 _ _ _ WS.out]; rfl
          have w3 : wr.cell? ⟨wz, 3, none⟩ = some (.int .i64 u.lim.m) := by rw [cell_of_row _ _ 3 _ _ _ WS.out]; rfl
          have w4 : wr.cell? ⟨wz, 4, none⟩ = some (.int .i64 u.lim.p) := by rw [cell_of_row _ _ 4 _ _ _ WS.out]; rfl
          have LE := Lib.hid (fun W => vle_any W sv u.lim)
          have LC := Lib.hid (show c4W l k u = if leV sv u.lim = false then 11 else 0 from by unfold c4W; rw [← hsv])
          clear hsv
          generalize leV sv u.lim = bb at *
          cases bb
          · have R := Lib.hid (show scanE (c4W l) 0 l = 11 from OK.out.err HU.out (by rw [LC.out, if_pos rfl]) (by decide))
            go_wp2_with fail
            with_reducible refine (LE.out _).mono ?_
            rintro e w5 ⟨rfl, h5⟩
            have HB := Lib.hid (B1.out.trans ((BS.out.trans (h5.mono BS.out.size)).mono B1.out.size))
            clear h5
            go_wp2_with fail
            go_ret
            exact ⟨by rw [R.out]; rfl, HB.out⟩
          · have NX := Lib.hid (OK.out.next HU.out (by rw [LC.out, if_neg (by decide)]))
            go_wp2_with fail
            with_reducible refine (LE.out _).mono ?_
            rintro e w5 ⟨rfl, h5⟩
            have HB := Lib.hid (BS.out.trans (h5.mono BS.out.size))
            clear h5
            go_wp2_with fail
            go_roundg (l.length - (k + 1))
            case rel => exact ⟨k + 1, by go_num, Nat.le_refl _, hlt, HB.out, NX⟩
            case measure => have := HM.out; omega
    · obtain rfl : k = l.length := by omega
      have R := Lib.hid OK.out.all
      have HB := Lib.hid (B1.out.trans (BR.out.mono B1.out.size))
      go_wp2_with fail
      go_ret
      exact ⟨by rw [R.out]; rfl, HB.out⟩
end
end Go.Proofs.Ytmiadhcmhnjmfaa
