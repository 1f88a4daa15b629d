/- Package tree: are all below the root. -/
import Derived.Test.YtjhakingdadfaaaTrO
namespace Go.Proofs.Ytjhakingdadfaaa
open Go.RowKit
set_option linter.unusedVariables false
set_option linter.unusedSimpArgs false
theorem nat_src {w : World} {B : Nat} {ao : Option Addr} {n cap : Nat} {xs : List Nat} (h : w.ownsRow B 3 1 (.slice ao n cap) xs.length (natC xs)) : (ao = none → n = 0) ∧ ∀ ad, ao = some ad → ∀ j u, (natC xs)[j]? = some u → w.cell? (ad.add j) = some u := by
  have h' := h
  rcases h.2 with ⟨e, h0⟩ | ⟨g, cap', cur, e, _⟩
  · simp only [Value.slice.injEq] at e
    obtain ⟨rfl, rfl, rfl⟩ := e
    exact ⟨fun _ => rfl, fun ad h => by cases h⟩
  · simp only [Value.slice.injEq] at e
    obtain ⟨rfl, rfl, rfl⟩ := e
    refine ⟨fun h => (by cases h), fun ad had j u hu => ?_⟩
    cases had
    rw [wadd, Nat.zero_add]
    have hj : j < xs.length := by have := (List.getElem?_eq_some_iff.1 hu).1; rwa [natC_len] at this
    rw [h'.cellAt j (by omega)]
    exact hu
theorem own_lower0 {w : World} {B B' e z n : Nat} {v : Value} {xs : List Value} (h : w.ownsRow B e z v n xs) (hB : B' ≤ B) : w.ownsRow B' e z v n xs := by
  refine ⟨h.1, ?_⟩
  rcases h.2 with hn | ⟨g, cap, cur, rfl, hbg, hg, r⟩
  · exact .inl hn
  · exact .inr ⟨g, cap, cur, rfl, by omega, hg, r⟩
theorem hang_to {l : List I12} : ∀ k, (∀ j, j < k → j < (qT l j).length) → k ≤ (qT l k).length
  | 0, _ => Nat.zero_le _
  | k + 1, h => by
    have h1 := h k (by omega)
    obtain ⟨r, hr⟩ := qT_grow l k 1
    rw [hr, List.length_append]; omega
section
variable (w : World)
set_option maxHeartbeats 4000000 in
set_option maxRecDepth 20000 in
theorem pcloneN (B : Nat) (v : Value) (xs : List Nat) (h : w.ownsRow B 3 1 v xs.length (natC xs)) (hn : xs = [] → v = nilS) (hl : xs.length ≤ 100000) :
    Calls Try.prog 38 #[v] w fun e w' => ∃ u, e = .returned u ∧ Below w.heap.size w w' ∧ w'.ownsRow w.heap.size 3 1 u xs.length (natC xs) := by
  obtain ⟨i0, hi0, hz0, hz1, hz2⟩ := info_partsT info_int
  obtain ⟨ao, cap, rfl⟩ := own_shape h
  cases ao with
  | none =>
    have hx : xs = [] := by
      have := (nat_src h).1 rfl
      exact List.eq_nil_of_length_eq_zero this
    subst hx
    have := hn rfl
    simp only [List.length_nil, nilS, Value.slice.injEq, true_and] at this
    subst this
    clear h hn
    have hnil := fun W => Lib.run_eql_slice_nil (P := Try.prog) W 54 3 none 0 0 0 0 Try.underlying54
    go_enter Try.func38, Try.ntmps38
    go_wp2_with fail
    go_ret
    exact ⟨_, rfl, Below.refl _ _, (own_none _ _ _ _ : World.ownsRow _ _ _ _ _ _ _)⟩
  | some ad =>
    have BE := Lib.hid (below_al (Below.refl w.heap.size w) (.cells #[] 3))
    have E0 := Lib.hid (show (w.alloc (.cells #[] 3)).ownsRow w.heap.size 3 1 (.slice (some ⟨w.heap.size, 0, none⟩) 0 0) 0 [] from ⟨by simp, .inr ⟨w.heap.size, 0, #[], rfl, Nat.le_refl _, heap_alloc_new w _, Nat.le_refl _, Nat.zero_le _, by simp, by simp⟩⟩)
    obtain ⟨S1, S2⟩ := nat_src (own_below h BE.out)
    have s1 := Lib.hid S1
    have s2 := Lib.hid S2
    have LL := Lib.hid hl
    clear S1 S2 h hn hl
    have hnil := fun W => Lib.run_eql_slice_nil (P := Try.prog) W 54 3 (some ad) xs.length cap 0 0 Try.underlying54
    go_enter Try.func38, Try.ntmps38
    go_wp2_with (at_builtin; refine wpList_append_any _ rfl _ _ 54 rfl w.heap.size 3 i0 (.int .i64 0) 1 8 Try.underlying54 hi0 hz0 hz1 hz2 rfl (by decide) (.slice (some ⟨w.heap.size, 0, none⟩) 0 0) 0 [] rfl E0.out (some ad) xs.length cap (natC xs) rfl (by rw [natC_len]; omega) s1.out s2.out (natC_one _) (by have := LL.out; unfold maxLen; omega) (by have := LL.out; omega) (by simp) ?_)
    intro v1 w1 hown1 hg1
    have B1 := Lib.hid (below_grown' BE.out hg1 (fun q hq => by have h := (World.ownsRow.lt E0.out q hq).1; omega))
    have O1 := Lib.hid (show w1.ownsRow w.heap.size 3 1 v1 xs.length (natC xs) by first | exact hown1 | (rw [Nat.zero_add] at hown1; exact hown1) | simpa using hown1)
    clear hown1 hg1 s1 s2 E0 BE
    go_wp2_with fail
    go_ret
    exact ⟨_, rfl, B1.out, O1.out⟩
set_option maxHeartbeats 8000000 in
set_option maxRecDepth 20000 in
theorem phang (l : List I12) (lv : Value) (h : IRow w l lv) (hl : l.length ≤ 200) (hz : ∀ u ∈ l, u.name.size ≤ 1000000 ∧ u.parent.size ≤ 1000000) (B g : Nat) (d : DataW Value) (V : ByteArray → Value) (hM : MapIn w B g l.length d V (fun s => kidsT l s l.length)) (bb : Bool) (hb1 : bb = true ↔ hangP l) :
    Calls Try.prog 22 #[.agg #[lv, .map (some g)]] w (Made (.bool bb) w) := by
  have HZ := Lib.hid hz
  have MI := Lib.hid hM
  have HBB := Lib.hid hb1
  obtain ⟨i0, hi0, hz0, hz1, hz2⟩ := info_partsT info_int
  obtain ⟨ao, cap, rfl, h1, h2, hat⟩ := h
  have HAT := Lib.hid hat
  have BX := Lib.hid (below_al (Below.refl w.heap.size w) (.cells #[.slice ao l.length cap, .map (some g)] 43))
  have NX := Lib.hid (heap_alloc_new w (.cells #[.slice ao l.length cap, .map (some g)] 43))
  have MX := Lib.hid (MI.out.alloc (.cells #[.slice ao l.length cap, .map (some g)] 43))
  have lk := look_below MX.out.map (s := ⟨#[]⟩) (by decide) (MX.out.at' ⟨#[]⟩)
  have CL := Lib.hid (fun W (hW : Below (w.alloc (.cells #[.slice ao l.length cap, .map (some g)] 43)).heap.size (w.alloc (.cells #[.slice ao l.length cap, .map (some g)] 43)) W) => pcloneN W B (V ⟨#[]⟩) (kidsT l ⟨#[]⟩ l.length) (own_below (MX.out.row ⟨#[]⟩) hW) (MX.out.nil ⟨#[]⟩) (by have := kidsT_len l ⟨#[]⟩ l.length; omega))
  clear hat h1 h2 hz hM hb1
  go_enter Try.func22, Try.ntmps22
  go_wp2_with fail
  generalize hqb : w.heap.size = qb at *
  generalize w.alloc (.cells #[.slice ao l.length cap, .map (some g)] 43) = wb at *
  with_reducible refine (CL.out _ (Below.refl _ _)).mono ?_
  rintro e w1 ⟨u, rfl, hb1, ho1⟩
  have HQB := Lib.hid hqb
  have B1 := Lib.hid hb1
  have O1 := Lib.hid ho1
  have NB := Lib.hid ((hb1.block qb (Array.getElem?_eq_some_iff.1 NX.out).1).trans NX.out)
  have b0 : w1.cell? ⟨qb, 0, none⟩ = some (.slice ao l.length cap) := (cell_of_row _ _ 0 _ _ _ NB.out).trans rfl
  have b1 : w1.cell? ⟨qb, 1, none⟩ = some (.map (some g)) := (cell_of_row _ _ 1 _ _ _ NB.out).trans rfl
  clear hb1 ho1 CL lk hqb
  go_wp2_with fail
  have BB := Lib.hid B1.out
  clear b0 b1
  go_loopg [3, 12] l.length (fun m rv iv wr => ∃ k : Nat, iv = .int .i64 k ∧ l.length - k ≤ m ∧ k ≤ l.length ∧ Below wb.heap.size wb wr ∧ wr.ownsRow wb.heap.size 3 1 rv (qT l k).length (natC (qT l k)) ∧ Hid (∀ j, j < k → j < (qT l j).length))
  case atStart => exact ⟨0, rfl, Nat.le_refl _, Nat.zero_le _, B1.out, O1.out, Lib.hid (fun j hj => by omega)⟩
  case round =>
    obtain ⟨k, rfl, hm, hk, hb, ho, OK⟩ := hrel
    have HM := Lib.hid hm
    have BR := Lib.hid hb
    have OO := Lib.hid ho
    obtain ⟨oo, oc, rfl⟩ := own_shape ho
    clear hm hb ho O1 NB B1 BB
    have LQ := Lib.hid (show (qT l k).length ≤ 200 * 201 from by
      have h1 := qT_len l k
      have h2 : (k + 1) * l.length ≤ 201 * 200 := Nat.mul_le_mul (by omega) hl
      omega)
    have KQ := Lib.hid (hang_to k OK.out)
    by_cases hlt : k < l.length
    · by_cases hq : k < (qT l k).length
      · obtain ⟨i, hi⟩ : ∃ i, (qT l k)[k]? = some i := ⟨_, List.getElem?_eq_getElem hq⟩
        have hil := qT_lt l k i (List.mem_of_getElem? hi)
        obtain ⟨x, hx⟩ : ∃ x, l[i]? = some x := ⟨_, List.getElem?_eq_getElem hil⟩
        obtain ⟨gx, ox, rfl, hcx⟩ := HAT.out i x hx
        have NXT := Lib.hid (show qT l (k + 1) = qT l k ++ kidsT l x.name l.length from by
          rw [qT, hi]
          simp only [nameAt_at hx])
        have NOK := Lib.hid (show ∀ j, j < k + 1 → j < (qT l j).length from fun j hj => by
          by_cases e : j = k
          · rw [e]; exact hq
          · exact OK.out j (by omega))
        have BWR := Lib.hid (show Below w.heap.size w wr from by rw [HQB.out]; exact (BX.out.trans (BR.out.mono (by have := BX.out.size; have := HQB.out; omega))))
        have nx0 := (hcx.below BWR.out).c0
        have NBR := Lib.hid ((BR.out.block qb (Array.getElem?_eq_some_iff.1 NX.out).1).trans NX.out)
        have b0 : wr.cell? ⟨qb, 0, none⟩ = some (.slice (some ⟨gx, ox, none⟩) l.length cap) := (cell_of_row _ _ 0 _ _ _ NBR.out).trans rfl
        have b1 : wr.cell? ⟨qb, 1, none⟩ = some (.map (some g)) := (cell_of_row _ _ 1 _ _ _ NBR.out).trans rfl
        have KR := Lib.hid (own_below (MX.out.row x.name) BR.out)
        have LKS := Lib.hid (show x.name.size ≤ maxLen by have := (HZ.out x (List.mem_of_getElem? hx)).1; unfold maxLen; omega)
        have LKA := Lib.hid (MX.out.at' x.name)
        obtain ⟨vo, vc, hV⟩ := own_shape (MX.out.row x.name)
        rw [hV] at LKA KR
        obtain ⟨S1, S2⟩ := nat_src KR.out
        have s1 := Lib.hid S1
        have s2 := Lib.hid S2
        have KL := Lib.hid (kidsT_len l x.name l.length)
        obtain ⟨bq, rfl, q0⟩ := own_cell OO.out hi
        have x0 : (0 : Int) ≤ (i : Int) := by omega
        have x1 : (i : Int) < (l.length : Int) := by omega
        have x2 : (k : Int) < ((qT l k).length : Int) := by omega
        have x3 : (0 : Int) ≤ (k : Int) := by omega
        have ne : ((k : Int) == ((qT l k).length : Int)) = false := by simp; omega
        have SZ := Lib.hid BR.out.size
        clear hi hx hcx OK hV S1 S2 KR
        generalize kidsT l x.name l.length = ks at *
        generalize hqq : qT l k = qk at *
        clear hqq hq
        have LKW := Lib.hid (fun W (hW : Below wr.heap.size wr W) => look_below (W := W) (ownsMap_below (ownsMap_below MX.out.map (BR.out.block g MX.out.lt)) (hW.block g (Nat.lt_of_lt_of_le MX.out.lt BR.out.size))) (s := x.name) LKS.out LKA.out)
        go_wp2_with fail
        refine wp_region_mono_tail 13 (by kernel_rfl) (by kernel_rfl) (Nat.le_of_ble_eq_true (by kernel_rfl)) (by kernel_rfl) ?_
        simp only [List.map_cons, List.map_nil]
        simp only [List.take_succ_cons, List.take_zero, List.drop_succ_cons, List.drop_zero]
        repeat (first
          | (apply wpM_is
             · (intro us W hW hg K hK
                clear hg
                have d0 := hold hW b0
                have d1 := hold hW b1
                have d2 := hold hW q0
                have d3 := hold hW nx0
                have lk := LKW.out W hW
                simp only [fillA]
                go_simp
                first
                | exact hK _ (Below.refl _ _))
             simp only [setD, List.set_cons_zero, List.set_cons_succ]))
        intro us W hW hg
        simp only [fillA]
        clear hg
        have OW := Lib.hid (own_below OO.out hW)
        have BWW := Lib.hid (BR.out.trans (hW.mono BR.out.size))
        have SZW := Lib.hid BWW.out.size
        have s3 := Lib.hid (show ∀ ad, vo = some ad → ∀ j u, (natC ks)[j]? = some u → W.cell? (ad.add j) = some u from fun ad ha j u hu => hold hW (s2.out ad ha j u hu))
        clear hW
        go_wp2_with (first
          | (at_builtin; refine wpList_append_any _ rfl _ _ 54 rfl wb.heap.size 3 i0 (.int .i64 0) 1 8 Try.underlying54 hi0 hz0 hz1 hz2 rfl (by decide) (.slice (some ⟨bq, 0, none⟩) qk.length oc) qk.length (natC qk) rfl OW.out vo ks.length vc (natC ks) rfl (by rw [natC_len]; omega) s1.out s3.out (natC_one _) (by have := LQ.out; have := KL.out; unfold maxLen; omega) (by have := LQ.out; have := KL.out; omega) SZW.out ?_; intro v6 w6 hown6 hg6))
        have B6 := Lib.hid (below_grown' BWW.out hg6 (fun q hq => (World.ownsRow.lt OW.out q hq).1))
        have O6 := Lib.hid (show w6.ownsRow wb.heap.size 3 1 v6 (qT l (k + 1)).length (natC (qT l (k + 1))) from by
          rw [NXT.out, List.length_append, natC_app]; exact hown6)
        clear hown6 hg6
        go_wp2_with fail
        go_roundg (l.length - (k + 1))
        case rel => exact ⟨k + 1, by go_num, Nat.le_refl _, hlt, B6.out, O6.out, NOK⟩
        case measure => have := HM.out; omega
      · have e : k = (qT l k).length := by have := KQ.out; omega
        have R := Lib.hid (show bb = false from Bool.eq_false_iff.2 (fun h => hq (HBB.out.1 h k hlt)))
        have ne : ((k : Int) == ((qT l k).length : Int)) = true := by simp; omega
        have BE := Lib.hid (show Below w.heap.size w wr from by rw [HQB.out]; exact (BX.out.trans (BR.out.mono (by have := BX.out.size; have := HQB.out; omega))))
        have LL : (qT l k).length ≤ 1000000 := by have := LQ.out; omega
        clear hq OK
        generalize qT l k = qk at *
        clear e
        go_wp2_with fail
        go_ret
        exact ⟨by rw [R.out]; rfl, BE.out⟩
    · obtain rfl : k = l.length := by omega
      have R := Lib.hid (HBB.out.2 OK.out)
      have BE := Lib.hid (show Below w.heap.size w wr from by rw [HQB.out]; exact (BX.out.trans (BR.out.mono (by have := BX.out.size; have := HQB.out; omega))))
      go_wp2_with fail
      go_ret
      exact ⟨by rw [R.out]; rfl, BE.out⟩
end
end Go.Proofs.Ytjhakingdadfaaa
