/- The law of lists: what its calls tell. -/
import Derived.Test.YtihlbnflgjidaaaDoorFunJ
import Derived.Test.YtihlbnflgjidaaaDoorI32s
import Derived.Test.YtihlbnflgjidaaaDoorValF
namespace Go.Proofs.YtihlbnflgjidaaaDoor
open Go.RowKit
set_option linter.unusedVariables false
set_option linter.unusedSimpArgs false

/-- A call that answers a row of numbers of its own. -/
def OwnNums (xs : List Int) (w : World) (e : Ending) (w' : World) : Prop := ∃ lv, e = .returned lv ∧ w'.ownsRow w.heap.size 24 4 lv xs.length (rowCells (xs.map np)) ∧ Below w.heap.size w w'
section
variable (w : World)
set_option maxHeartbeats 4000000 in
set_option maxRecDepth 20000 in
theorem flist (v : Value) (xs : List Int) (h : NumsRd .i32 w v xs) (hl : xs.length ≤ 1000) (hx : ∀ x ∈ xs, -2147483648 ≤ x ∧ x ≤ 2147483647) : Calls Tryd.prog 29 #[v] w (OwnNums xs w) := by
  have H := Lib.hid h
  have HX := Lib.hid hx
  obtain ⟨ao, cap, rfl⟩ := h.shape
  obtain ⟨i0, hi0, hz0, hz1, hz2⟩ := info_parts info_val
  clear h hx
  go_enter Tryd.func29, Tryd.ntmps29
  go_wp2_with fail
  go_loopg [3, 4] xs.length (fun m rv iv wr => ∃ i : Nat, iv = .int .i64 i ∧ xs.length - i ≤ m ∧ i ≤ xs.length ∧ Below w.heap.size w wr ∧ wr.ownsRow w.heap.size 24 4 rv i (rowCells ((xs.take i).map np)))
  case atStart => exact ⟨0, rfl, Nat.le_refl _, Nat.zero_le _, Below.refl _ _, own_none _ _ _ _⟩
  case round =>
    obtain ⟨i, rfl, hm, hi, hb, ho⟩ := hrel
    obtain ⟨rao, rcap, rfl⟩ := own_len ho
    have HM := Lib.hid hm
    have BR := Lib.hid hb
    have O := Lib.hid ho
    clear hm hb ho
    by_cases hil : i < xs.length
    · obtain ⟨x, hu⟩ : ∃ x, xs[i]? = some x := ⟨_, List.getElem?_eq_getElem hil⟩
      obtain ⟨ao2, cap2, e2, hc⟩ := (H.out.below BR.out)
      simp only [Value.slice.injEq, true_and] at e2
      obtain ⟨rfl, rfl⟩ := e2
      obtain ⟨g, o, rfl, c0⟩ := hc i x hu
      have hxr := HX.out x (List.mem_of_getElem? hu)
      have TS := Lib.hid (show rowCells ((xs.take (i + 1)).map np) = rowCells ((xs.take i).map np) ++ pairCells (np x) by rw [List.take_add_one, hu, Option.toList_some, List.map_append, ← rowCells_snoc]; rfl)
      clear hc hu
      go_wp2_with fail
      with_reducible refine (lval5 _ _).mono ?_
      rintro e w2 ⟨rfl, hb2⟩
      have B2 := Lib.hid (below_tr BR.out hb2)
      have O2 := Lib.hid (own_below O.out hb2)
      have NW := Lib.hid (news_new w2 #[.int .i64 1, .int .i64 x, .string ⟨#[]⟩, .slice none 0 0] 24)
      clear hb2 hxr
      go_wp2_with (at_builtin; refine wpList_append_own _ rfl _ _ 22 rfl w.heap.size 24 i0 _ 4 56 Tryd.underlying22 hi0 hz0 hz1 hz2 rfl (by decide) (.slice rao i rcap) i (rowCells ((xs.take i).map np)) rfl (O2.out.alloc _) ⟨w2.heap.size, 0, none⟩ 1 1 [.int .i64 1, .int .i64 x, .string ⟨#[]⟩, .slice none 0 0] rfl rfl ?a1 ?b1 ?c1 ?d1 ?e1 ?_)
      try case a1 => exact NW.out
      case b1 => simp [Value.oneCell']
      case c1 => unfold maxLen; omega
      case d1 => omega
      case e1 => have := B2.out.size; simp; omega
      intro v' w6 hown hgrow _
      have BZ := Lib.hid (below_grown B2.out hgrow (fun k hk => (World.ownsRow.lt O.out k hk).1))
      have OZ := Lib.hid (show w6.ownsRow w.heap.size 24 4 v' (i + 1) (rowCells ((xs.take (i + 1)).map np)) by rw [TS.out, List.map_take]; exact hown)
      clear hown hgrow
      go_wp2_with fail
      go_roundg (xs.length - (i + 1))
      case rel => exact ⟨i + 1, rfl, Nat.le_refl _, hil, BZ.out, OZ.out⟩
      case measure => have := HM.out; omega
    · have e : i = xs.length := by omega
      have OZ := Lib.hid (show wr.ownsRow w.heap.size 24 4 (.slice rao i rcap) xs.length (rowCells (xs.map np)) by have h := O.out; rw [e, List.take_length] at h; rw [e]; exact h)
      clear e
      go_wp2_with fail
      go_ret
      exact ⟨_, rfl, OZ.out, BR.out⟩
theorem run_concat (a : Array Value) (W : World) : (callFunc 73 a).run Tryd.prog W = .ok (.enter 73 a) W := run_enter Tryd.func73 (by kernel_rfl) (by kernel_rfl) a W
theorem run_count (a : Array Value) (W : World) : (callFunc 75 a).run Tryd.prog W = .ok (.enter 75 a) W := run_enter Tryd.func75 (by kernel_rfl) (by kernel_rfl) a W
theorem fits_list {v : VL} (h : v.kind = 4) : fitsB 3 v = true := by simp [fitsB, h]
theorem call_concat_ok (D : Nat) (l : List VL) (lv : Value) (h : RowRd w D l lv) (h0 : 0 < l.length) (hl : l.length ≤ 1000) (hk : ∀ v ∈ l, v.kind = 4) (hn : ∀ v ∈ l, v.kids.length ≤ 1000) (hm : mayB 64 (vlist (catV l)) = true) :
    Calls Tryd.prog 26 #[.string ⟨#[99, 111, 110, 99, 97, 116]⟩, lv] w (Gives (D - 1 - 1 + 1) 4 0 ⟨#[]⟩ (catV l) w) :=
  call_gives w _ [3] true 73 fnamed_concat (takes_one 3 (by omega)) D l lv h (check_many h0 fun v hv => fits_list (hk v hv)) _ _ _ _ _ run_concat fun W hW =>
    (fconcat W D l lv (h.below hW) hl hn).mono fun e w' hh => hh.1 hm
theorem call_concat_bad (D : Nat) (l : List VL) (lv : Value) (h : RowRd w D l lv) (h0 : 0 < l.length) (hl : l.length ≤ 1000) (hk : ∀ v ∈ l, v.kind = 4) (hn : ∀ v ∈ l, v.kids.length ≤ 1000) (hm : mayB 64 (vlist (catV l)) = false) :
    Calls Tryd.prog 26 #[.string ⟨#[99, 111, 110, 99, 97, 116]⟩, lv] w (IsTold 0 0 ⟨#[]⟩ 4 w) :=
  call_told w _ [3] true 73 fnamed_concat (takes_one 3 (by omega)) D l lv h (check_many h0 fun v hv => fits_list (hk v hv)) _ _ _ _ run_concat fun W hW =>
    (fconcat W D l lv (h.below hW) hl hn).mono fun e w' hh => hh.2 hm
theorem call_range_ok (D : Nat) (v : VL) (lv : Value) (h : RowRd w D [v] lv) (hk : v.kind = 1) (n : Nat) (hn : v.num = (n : Int)) (h64 : n ≤ 64) :
    Calls Tryd.prog 26 #[.string ⟨#[114, 97, 110, 103, 101]⟩, lv] w (Gives 1 4 0 ⟨#[]⟩ ((upTo n).map vnum) w) :=
  call_gives w _ [1] false 75 fnamed_range (takes_one 1 (by omega)) D [v] lv h (check_one (fits_num hk)) _ _ _ _ _ run_count fun W hW => fcount_ok W D v lv (h.below hW) n hn h64
theorem call_range_bad (D : Nat) (v : VL) (lv : Value) (h : RowRd w D [v] lv) (hk : v.kind = 1) (hn : v.num < 0 ∨ 64 < v.num) :
    Calls Tryd.prog 26 #[.string ⟨#[114, 97, 110, 103, 101]⟩, lv] w (IsTold 0 0 ⟨#[]⟩ (if v.num < 0 then 1 else 4) w) :=
  call_told w _ [1] false 75 fnamed_range (takes_one 1 (by omega)) D [v] lv h (check_one (fits_num hk)) _ _ _ _ run_count fun W hW => fcount_bad W D v lv (h.below hW) hn
/-- A value, or an error, that a call made. -/
def Got (k : Int) (l : List VL) (c : Int) (w : World) (e : Ending) (w' : World) : Prop :=
  ∃ lv, e = .returned (.tuple #[.agg #[.int .i64 k, .int .i64 0, .string ⟨#[]⟩, lv], .int .i64 c]) ∧ RowRd w' 1 l lv ∧ Below w.heap.size w w'
theorem got_ok {l : List VL} {w w' : World} {e : Ending} (h : Gives 1 4 0 ⟨#[]⟩ l w e w') : Got 4 l 0 w e w' := by
  obtain ⟨lv, he, hr, hb⟩ := h; exact ⟨lv, he, hr.rd, hb⟩
theorem got_bad {c : Int} {w w' : World} {e : Ending} (h : IsTold 0 0 ⟨#[]⟩ c w e w') : Got 0 [] c w e w' := ⟨_, h.1, RowRd.nil _ _ _ _, h.2⟩
theorem t_concat (xs ys : List Int) (va vb : Value) (ra : RowRd w 1 (xs.map vnum) va) (rb : RowRd w 1 (ys.map vnum) vb) (g : Nat)
    (hg : w.heap[g]? = some (.cells #[.int .i64 4, .int .i64 0, .string ⟨#[]⟩, va, .int .i64 4, .int .i64 0, .string ⟨#[]⟩, vb] 24 (0, 0))) (hx : xs.length ≤ 1000) (hy : ys.length ≤ 1000) :
    Calls Tryd.prog 26 #[.string ⟨#[99, 111, 110, 99, 97, 116]⟩, .slice (some ⟨g, 0, none⟩) 2 2] w
      (Got (if xs.length + ys.length ≤ 64 then 4 else 0) (if xs.length + ys.length ≤ 64 then (xs ++ ys).map vnum else []) (if xs.length + ys.length ≤ 64 then 0 else 4) w) := by
  have hr : RowRd w 2 [vlist (xs.map vnum), vlist (ys.map vnum)] (.slice (some ⟨g, 0, none⟩) 2 2) := row_two (v := vlist (xs.map vnum)) (u := vlist (ys.map vnum)) hg ra rb
  have hc : catV [vlist (xs.map vnum), vlist (ys.map vnum)] = (xs ++ ys).map vnum := by simp [catV, vlist, VL.kids]
  have hk : ∀ v ∈ [vlist (xs.map vnum), vlist (ys.map vnum)], v.kind = 4 := by simp [vlist, VL.kind]
  have hn : ∀ v ∈ [vlist (xs.map vnum), vlist (ys.map vnum)], v.kids.length ≤ 1000 := by simp [vlist, VL.kids]; omega
  by_cases h64 : xs.length + ys.length ≤ 64
  · rw [if_pos h64, if_pos h64, if_pos h64]
    refine (call_concat_ok w 2 _ _ hr (by simp) (by simp) hk hn (by rw [hc]; exact may_nums (by simpa using h64))).mono fun e w' h => ?_
    rw [hc] at h
    exact got_ok h
  · rw [if_neg h64, if_neg h64, if_neg h64]
    exact (call_concat_bad w 2 _ _ hr (by simp) (by simp) hk hn (by rw [hc]; exact may_long (by simp; omega))).mono fun e w' h => got_bad h
theorem t_range (n : Int) (g : Nat) (hg : NBlk w g 1 n ⟨#[]⟩) : Calls Tryd.prog 26 #[.string ⟨#[114, 97, 110, 103, 101]⟩, .slice (some ⟨g, 0, none⟩) 1 1] w
      (Got (if n < 0 ∨ 64 < n then 0 else 4) (if n < 0 ∨ 64 < n then [] else (upTo n.toNat).map vnum) (if n < 0 then 1 else if 64 < n then 4 else 0) w) := by
  have hr : RowRd w 1 [VL.mk 1 n ⟨#[]⟩ []] (.slice (some ⟨g, 0, none⟩) 1 1) := row_one (v := VL.mk 1 n ⟨#[]⟩ []) hg (RowRd.nil _ _ _ _)
  by_cases hn : n < 0 ∨ 64 < n
  · rw [if_pos hn, if_pos hn]
    have h1 := call_range_bad w 1 (VL.mk 1 n ⟨#[]⟩ []) _ hr rfl hn
    have e : (if (VL.mk 1 n ⟨#[]⟩ []).num < 0 then (1 : Int) else 4) = (if n < 0 then 1 else if 64 < n then 4 else 0) := by
      show (if n < 0 then (1 : Int) else 4) = _
      by_cases h0 : n < 0
      · rw [if_pos h0, if_pos h0]
      · rw [if_neg h0, if_neg h0, if_pos (by omega)]
    rw [e] at h1
    exact h1.mono fun e w' h => got_bad h
  · rw [if_neg hn, if_neg hn, if_neg (by omega), if_neg (by omega)]
    exact (call_range_ok w 1 (VL.mk 1 n ⟨#[]⟩ []) _ hr rfl n.toNat (by show n = _; omega) (by omega)).mono fun e w' h => got_ok h
end
end Go.Proofs.YtihlbnflgjidaaaDoor
