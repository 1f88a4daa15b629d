/- Package tree: Find, Up, Below, Depth. -/
import Derived.Test.YtjhakingdadfaaaTrS
namespace Go.Proofs.Ytjhakingdadfaaa
open Go.RowKit
set_option linter.unusedVariables false
set_option linter.unusedSimpArgs false
theorem kids_below (l : List I12) (s : ByteArray) : ∀ k, k ≤ l.length → (kidsT l s k).map (nameAt l) = belowTo l s k
  | 0, _ => by simp [kidsT, belowTo]
  | k + 1, h => by
    have hx := List.getElem?_eq_getElem (show k < l.length by omega)
    rw [kidsT_step hx, belowTo_step hx]
    split
    · rw [List.map_append, kids_below l s k (by omega)]
      simp only [List.map_cons, List.map_nil, nameAt_at hx]
    · exact kids_below l s k (by omega)
theorem up_same {l : List I12} {s : ByteArray} (h : (upI l s).length ≤ l.length) : upF l l.length s = upI l s := by
  unfold upI at *
  rw [upF_take l l.length 1 s, List.take_of_length_le h]
section
variable (w : World)
set_option maxHeartbeats 4000000 in
set_option maxRecDepth 20000 in
theorem pfind (l : List I12) (lv : Value) (h : IRow w l lv) (hl : l.length ≤ 1000) (hs : Srt l) (s : ByteArray) :
    Calls Try.prog 33 #[lv, .string s] w (Made (.int .i64 (findI l s)) w) := by
  have BS := Lib.hid (pbsearch w l lv h hl s)
  obtain ⟨ao, cap, rfl⟩ := h.shape
  cases hk : iIdx l s with
  | none =>
    have R := Lib.hid (show findI l s = -1 by unfold findI; rw [hk])
    have F := found_none hk
    rw [F] at BS
    generalize placeT l s = q at *
    clear h hs hk F
    go_enter Try.func33, Try.ntmps33
    go_wp2_with fail
    with_reducible refine BS.out.mono ?_
    rintro e w1 ⟨rfl, hb⟩
    have B1 := Lib.hid hb
    clear hb
    go_wp2_with fail
    go_ret
    exact ⟨by rw [R.out]; rfl, B1.out⟩
  | some k =>
    have R := Lib.hid (show findI l s = (k : Int) by unfold findI; rw [hk])
    obtain ⟨F1, F2⟩ := found_some hs hk
    rw [F1, F2] at BS
    clear h hs hk F1 F2
    go_enter Try.func33, Try.ntmps33
    go_wp2_with fail
    with_reducible refine BS.out.mono ?_
    rintro e w1 ⟨rfl, hb⟩
    have B1 := Lib.hid hb
    clear hb
    go_wp2_with fail
    go_ret
    exact ⟨by rw [R.out]; rfl, B1.out⟩
set_option maxHeartbeats 4000000 in
set_option maxRecDepth 20000 in
theorem pFind (l : List I12) (lv : Value) (h : IRow w l lv) (hl : l.length ≤ 1000) (hs : Srt l) (s : ByteArray) :
    Calls Try.prog 15 #[lv, .string s] w (Made (.int .i64 (findI l s)) w) := by
  have PF := Lib.hid (pfind w l lv h hl hs s)
  obtain ⟨ao, cap, rfl⟩ := h.shape
  clear h hs
  go_enter Try.func15, Try.ntmps15
  go_wp2_with fail
  with_reducible refine PF.out.mono ?_
  rintro e w1 ⟨rfl, hb⟩
  have B1 := Lib.hid hb
  clear hb
  go_wp2_with fail
  go_ret
  exact ⟨rfl, B1.out⟩
set_option maxHeartbeats 4000000 in
set_option maxRecDepth 20000 in
theorem pup (l : List I12) (lv : Value) (h : IRow w l lv) (hl : l.length ≤ 1000) (hs : Srt l) (s : ByteArray) :
    Calls Try.prog 32 #[lv, .string s] w (MadeStrs (upF l l.length s) w) := by
  have RF := Lib.hid (fun W (hW : Below w.heap.size w W) s => pfind W l lv (h.below hW) hl hs s)
  obtain ⟨i0, hi0, hz0, hz1, hz2⟩ := info_partsT info_str
  obtain ⟨ao, cap, rfl, h1, h2, hat⟩ := h
  have HAT := Lib.hid hat
  clear hat h1 h2 hs
  go_enter Try.func32, Try.ntmps32
  go_wp2_with fail
  with_reducible refine (RF.out w (Below.refl _ _) s).mono ?_
  rintro e w1 ⟨rfl, hb1⟩
  have B0 := Lib.hid hb1
  clear hb1
  go_wp2_with fail
  go_loopg [5, 6] l.length (fun m ov kv wr => ∃ (out : List ByteArray) (t : ByteArray), kv = .int .i64 (findI l t) ∧ out.length ≤ l.length ∧ l.length - out.length ≤ m ∧ Below w.heap.size w wr ∧ StrsO wr w.heap.size ov out ∧ Hid (upF l l.length s = out ++ upF l (l.length - out.length) t))
  case atStart => exact ⟨[], s, rfl, Nat.zero_le _, Nat.le_refl _, B0.out, (own_none _ _ _ _ : World.ownsRow _ _ _ _ _ _ _), Lib.hid rfl⟩
  case round =>
    obtain ⟨out, t, rfl, hol, hm, hb, ho, UP⟩ := hrel
    have HM := Lib.hid hm
    have BR := Lib.hid hb
    have OO := Lib.hid ho
    obtain ⟨oo, oc, rfl⟩ := ho.shape
    clear hm hb ho
    cases hk : iIdx l t with
    | none =>
      have E := Lib.hid (show findI l t = -1 by unfold findI; rw [hk])
      have R := Lib.hid (show upF l l.length s = out by rw [UP.out, upF_none hk, List.append_nil])
      rw [E.out]
      clear hk UP
      go_wp2_with fail
      go_ret
      exact ⟨_, rfl, BR.out, by rw [R.out]; exact OO.out⟩
    | some k =>
      have E := Lib.hid (show findI l t = (k : Int) by unfold findI; rw [hk])
      obtain ⟨x, hx, -⟩ := iIdx_spec hk
      have hkl := iIdx_lt hk
      have KK := Lib.hid hk
      have HX := Lib.hid hx
      obtain ⟨g, o, rfl, hcu⟩ := HAT.out k x hx
      have c0 := hold BR.out hcu.c0
      have c1 := hold BR.out hcu.c1
      have kp : (0 : Int) ≤ (k : Int) := by omega
      rw [E.out]
      clear hk hx hcu
      by_cases hfull : out.length = l.length
      · have R := Lib.hid (show upF l l.length s = out by rw [UP.out, hfull, Nat.sub_self]; unfold upF; rw [List.append_nil])
        have HF := Lib.hid hfull
        have gf : ¬ out.length < l.length := by omega
        have gf2 : ¬ (out.length : Int) < (l.length : Int) := by omega
        have gf3 : (l.length : Int) ≤ (out.length : Int) := by omega
        have gl : out.length ≤ 1001 := by omega
        clear UP hfull
        go_wp2_with fail
        go_ret
        exact ⟨.slice oo out.length oc, rfl, BR.out, by rw [R.out]; exact OO.out⟩
      · have hlt : out.length < l.length := by omega
        have gf : (out.length : Int) < (l.length : Int) := by omega
        have NU := Lib.hid (show upF l l.length s = (out ++ [x.name]) ++ upF l (l.length - (out ++ [x.name]).length) x.parent from by
          rw [UP.out, show l.length - out.length = (l.length - out.length - 1) + 1 by omega, upF_some KK.out HX.out, List.append_assoc, List.length_append, List.length_singleton]
          congr 3)
        have BX := Lib.hid (below_al (Below.refl wr.heap.size wr) (.cells #[.string x.name] 9))
        have O1 := Lib.hid (show (wr.alloc (.cells #[.string x.name] 9)).ownsRow w.heap.size 9 1 (.slice oo out.length oc) out.length (strC out) from World.ownsRow.alloc OO.out _)
        have B1 := Lib.hid (below_tr BR.out BX.out)
        have LOW := Lib.hid (show ∀ q, (Value.slice oo out.length oc).ownBlock = some q → w.heap.size ≤ q from fun q hq => (World.ownsRow.lt OO.out q hq).1)
        have SZ := Lib.hid BR.out.size
        clear UP
        go_wp2_with (first
          | (at_builtin; refine wpList_append_lies _ rfl _ _ 35 rfl w.heap.size 9 i0 (.string ⟨#[]⟩) 1 16 Try.underlying35 hi0 hz0 hz1 hz2 rfl (by decide) (.slice oo out.length oc) out.length (strC out) rfl O1.out ⟨wr.heap.size, 0, none⟩ 1 1 [.string x.name] rfl rfl (news_str wr x.name) (by simp [Value.oneCell']) (by decide) (by unfold maxLen; omega) (by omega) B1.out.size _ rfl ?_; intro gg cc w6 hown6 hgrow6 hat6 hlt6; have c16 := grow_cellT hgrow6 (hold BX.out c1) (fun e => by have h7 := LOW.out g e; have h8 := World.block_lt_of_cell? _ _ (HAT.out k x HX.out |> fun ⟨_, _, e2, h9⟩ => by cases e2; exact h9.c0); simp only at h8; omega)))
        have B6 := Lib.hid (below_grown' B1.out hgrow6 LOW.out)
        have O6 := Lib.hid (show StrsO w6 w.heap.size (.slice (some ⟨gg, 0, none⟩) (out.length + 1) cc) (out ++ [x.name]) from by
          unfold StrsO
          rw [List.length_append, strC_app]; exact hown6)
        have FP := Lib.hid (RF.out w6 B6.out x.parent)
        clear hown6 hgrow6 hat6 hlt6
        with_reducible refine FP.out.mono ?_
        rintro e w7 ⟨rfl, h7⟩
        have B7 := Lib.hid (below_tr B6.out h7)
        have O7 := Lib.hid (O6.out.below h7)
        clear h7
        go_wp2_with fail
        go_roundg (l.length - (out.length + 1))
        case rel => exact ⟨out ++ [x.name], x.parent, rfl, by rw [List.length_append]; simp; omega, by rw [List.length_append]; exact Nat.le_refl _, B7.out, O7.out, NU⟩
        case measure => have := HM.out; omega
set_option maxHeartbeats 4000000 in
set_option maxRecDepth 20000 in
theorem punder (l : List I12) (lv : Value) (h : IRow w l lv) (hl : l.length ≤ 200) (s : ByteArray) (hz : s.size ≤ 1000000) (B g : Nat) (d : DataW Value) (V : ByteArray → Value) (hM : MapIn w B g l.length d V (fun s => kidsT l s l.length)) :
    Calls Try.prog 34 #[.agg #[lv, .map (some g)], .string s] w (MadeStrs (belowI l s) w) := by
  obtain ⟨ao, cap, rfl, h1, h2, hat⟩ := h
  have HAT := Lib.hid hat
  have NX := Lib.hid (heap_alloc_new w (.cells #[.slice ao l.length cap, .map (some g)] 43))
  have MX := Lib.hid (hM.alloc (.cells #[.slice ao l.length cap, .map (some g)] 43))
  have BX := Lib.hid (below_al (Below.refl w.heap.size w) (.cells #[.slice ao l.length cap, .map (some g)] 43))
  have KL := Lib.hid (kidsT_len l s l.length)
  have KLT := Lib.hid (show ∀ i ∈ kidsT l s l.length, i < l.length from fun i hi => (kidsT_mem.1 hi).1)
  have KS := Lib.hid (show (kidsT l s l.length).map (nameAt l) = belowI l s from (kids_below l s l.length (Nat.le_refl _)).trans (belowTo_all l s))
  have KR := Lib.hid (MX.out.row s)
  have lk := look_below MX.out.map (s := s) (by unfold maxLen; omega) (MX.out.at' s)
  obtain ⟨vo, vc, hV⟩ := own_shape (MX.out.row s)
  rw [hV] at lk KR
  obtain ⟨i0, hi0, hz0, hz1, hz2⟩ := info_partsT info_str
  generalize belowI l s = res at *
  generalize kidsT l s l.length = ks at *
  have kl : ks.length ≤ 1000 := by have := KL.out; omega
  clear h1 h2 hM hat hV
  go_enter Try.func34, Try.ntmps34
  go_wp2_with fail
  generalize hqb : w.heap.size = qb at *
  generalize w.alloc (.cells #[.slice ao l.length cap, .map (some g)] 43) = wb at *
  have HQB := Lib.hid hqb
  clear hqb lk
  go_loopg [5, 13] ks.length (fun m ov kv wr => ∃ k : Nat, kv = .int .i64 (k : Int) ∧ k ≤ ks.length ∧ ks.length - k ≤ m ∧ Below wb.heap.size wb wr ∧ StrsO wr wb.heap.size ov ((ks.take k).map (nameAt l)))
  case atStart => exact ⟨0, rfl, Nat.zero_le _, Nat.le_refl _, Below.refl _ _, (own_none _ _ _ _ : World.ownsRow _ _ _ _ _ _ _)⟩
  case round =>
    obtain ⟨k, rfl, hk, hm, hb, ho⟩ := hrel
    have HM := Lib.hid hm
    have BR := Lib.hid hb
    have OO := Lib.hid ho
    obtain ⟨oo, oc, rfl⟩ := ho.shape
    clear hm hb ho
    have BWR := Lib.hid (show Below w.heap.size w wr from by rw [HQB.out]; exact (BX.out.trans (BR.out.mono (by have := BX.out.size; have := HQB.out; omega))))
    by_cases hlt : k < ks.length
    · obtain ⟨i, hi⟩ : ∃ i, ks[k]? = some i := ⟨_, List.getElem?_eq_getElem hlt⟩
      have hil := KLT.out i (List.mem_of_getElem? hi)
      obtain ⟨x, hx⟩ : ∃ x, l[i]? = some x := ⟨_, List.getElem?_eq_getElem hil⟩
      obtain ⟨gx, o, rfl, hc⟩ := HAT.out i x hx
      have c0 := (hc.below BWR.out).c0
      obtain ⟨bk, rfl, q0'⟩ := own_cell KR.out hi
      have q0 := hold BR.out q0'
      have NBR := Lib.hid ((BR.out.block qb (Array.getElem?_eq_some_iff.1 NX.out).1).trans NX.out)
      have b0 : wr.cell? ⟨qb, 0, none⟩ = some (.slice (some ⟨gx, o, none⟩) l.length cap) := (cell_of_row _ _ 0 _ _ _ NBR.out).trans rfl
      have NS := Lib.hid (show (ks.take (k + 1)).map (nameAt l) = (ks.take k).map (nameAt l) ++ [x.name] from by
        rw [List.take_add_one, hi]
        simp only [Option.toList_some, List.map_append, List.map_cons, List.map_nil, nameAt_at hx])
      have LN := Lib.hid (show ((ks.take k).map (nameAt l)).length ≤ 1000 from by rw [List.length_map, List.length_take]; omega)
      have x0 : (0 : Int) ≤ (i : Int) := by omega
      have x1 : (i : Int) < (l.length : Int) := by omega
      clear hi hx hc q0'
      generalize hout : (ks.take k).map (nameAt l) = out at *
      clear hout
      have BA := Lib.hid (below_al (Below.refl wr.heap.size wr) (.cells #[.string x.name] 9))
      have O1 := Lib.hid (show (wr.alloc (.cells #[.string x.name] 9)).ownsRow wb.heap.size 9 1 (.slice oo out.length oc) out.length (strC out) from World.ownsRow.alloc OO.out _)
      have B1 := Lib.hid (show Below wb.heap.size wb (wr.alloc (.cells #[.string x.name] 9)) from BR.out.trans (BA.out.mono BR.out.size))
      have LOW := Lib.hid (show ∀ q, (Value.slice oo out.length oc).ownBlock = some q → wb.heap.size ≤ q from fun q hq => (World.ownsRow.lt OO.out q hq).1)
      go_wp2_with (first
        | (at_builtin; refine wpList_append_lies _ rfl _ _ 35 rfl wb.heap.size 9 i0 (.string ⟨#[]⟩) 1 16 Try.underlying35 hi0 hz0 hz1 hz2 rfl (by decide) (.slice oo out.length oc) out.length (strC out) rfl O1.out ⟨wr.heap.size, 0, none⟩ 1 1 [.string x.name] rfl rfl (news_str wr x.name) (by simp [Value.oneCell']) (by decide) (by have := LN.out; unfold maxLen; omega) (by have := LN.out; omega) B1.out.size _ rfl ?_; intro gg cc w6 hown6 hgrow6 hat6 hlt6))
      have B6 := Lib.hid (below_grown' B1.out hgrow6 LOW.out)
      have O6 := Lib.hid (show StrsO w6 wb.heap.size (.slice (some ⟨gg, 0, none⟩) (out.length + 1) cc) ((ks.take (k + 1)).map (nameAt l)) from by
        rw [NS.out]
        unfold StrsO
        rw [List.length_append, strC_app]; exact hown6)
      clear hown6 hgrow6 hat6 hlt6
      go_wp2_with fail
      go_roundg (ks.length - (k + 1))
      case rel => exact ⟨k + 1, by go_num, hlt, Nat.le_refl _, B6.out, O6.out⟩
      case measure => have := HM.out; omega
    · obtain rfl : k = ks.length := by omega
      have R := Lib.hid (show (ks.take ks.length).map (nameAt l) = res from by rw [List.take_length]; exact KS.out)
      go_wp2_with fail
      go_ret
      exact ⟨_, rfl, BWR.out, by rw [← R.out]; exact own_lower0 OO.out (by have := BX.out.size; exact this)⟩
end
end Go.Proofs.Ytjhakingdadfaaa
