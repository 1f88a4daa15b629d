/- The law of joins, walked. -/
import Derived.Test.YtihlbnflgjidaabDoorFunH
namespace Go.Proofs.YtihlbnflgjidaabDoor
open Go.RowKit
set_option linter.unusedVariables false
set_option linter.unusedSimpArgs false

theorem catB_snoc (ws : List ByteArray) (x : ByteArray) : catB (ws ++ [x]) = catB ws ++ x := by
  unfold catB
  apply ByteArray.ext
  simp [ByteArray.data_append]
def tp (x : ByteArray) : VL × Value := (VL.mk 2 0 x [], .slice none 0 0)
def strV (x : ByteArray) : VL := VL.mk 2 0 x []
theorem tp_rd {w : World} {B : Nat} {v : Value} {xs : List ByteArray} (h : w.ownsRow B 27 4 v xs.length (rowCells (xs.map tp))) (hk : xs.length ≤ 1000) : RowRd w 1 (xs.map strV) v := by
  have h1 := row_of_own (D := 0) (ps := xs.map tp) (by rw [List.length_map]; exact h) (by rw [List.length_map]; unfold maxLen; omega) (fun p hp => by
    obtain ⟨x, -, rfl⟩ := List.mem_map.1 hp; exact RowRd.nil _ _ _ _)
  rw [List.map_map] at h1
  exact h1
theorem strV_text (xs : List ByteArray) : (xs.map strV).map VL.text = xs := by
  rw [List.map_map]
  exact List.map_id' xs |>.symm ▸ (by simp [strV, VL.text, Function.comp_def])
theorem strV_all (xs : List ByteArray) : allB 2 (xs.map strV) = true := by simp [allB, strV, VL.kind]
section
variable (w : World)
theorem run_join (a : Array Value) (W : World) : (callFunc 20 a).run Tryd.prog W = .ok (.enter 20 a) W := run_enter Tryd.func20 (by kernel_rfl) (by kernel_rfl) a W
theorem call_join (D : Nat) (a b : VL) (lv : Value) (h : RowRd w D [a, b] lv) (ha : a.kind = 2) (hb : b.kind = 4) (hk : allB 2 b.kids = true) (hn : b.kids.length ≤ 1000) (hs : a.text.size ≤ 1000) (ht : ∀ v ∈ b.kids, v.text.size ≤ 1000) :
    Calls Tryd.prog 8 #[.string ⟨#[106, 111, 105, 110]⟩, lv] w (Told (joinR (weave a.text (b.kids.map VL.text))) w) :=
  call_told w _ [2, 5] false 20 fnamed_join (takes_two 2 5 (by omega) (by omega)) D [a, b] lv h (check_two (by simp [fitsB, ha]) (by simp [fitsB, hb, hk])) _ _ _ _ run_join fun W hW => fjoin W D a b lv (h.below hW) hn hs ht
theorem t_join (W : World) (y : ByteArray) (xs : List ByteArray) (lv v : Value) (hr : RowRd W 1 (xs.map strV) v) (g : Nat) (hg : W.heap[g]? = some (.cells #[.int .i64 2, .int .i64 0, .string y, .slice none 0 0, .int .i64 4, .int .i64 0, .string ⟨#[]⟩, v] 27 (0, 0)))
    (hx : xs.length ≤ 1000) (hy : y.size ≤ 1000) (hs : ∀ x ∈ xs, x.size ≤ 1000) :
    Calls Tryd.prog 8 #[.string ⟨#[106, 111, 105, 110]⟩, .slice (some ⟨g, 0, none⟩) 2 2] W (Told (joinR (weave y xs)) W) := by
  have := call_join W 2 (strV y) (vlist (xs.map strV)) _ (row_two (v := strV y) (u := vlist (xs.map strV)) hg (RowRd.nil _ _ _ _) hr) rfl rfl (strV_all xs) (by simpa [vlist, VL.kids] using hx) hy (fun v hv => by
    obtain ⟨x, hx, rfl⟩ := List.mem_map.1 hv; exact hs x hx)
  have e : (vlist (xs.map strV)).kids.map VL.text = xs := strV_text xs
  rw [e] at this
  exact this
set_option maxHeartbeats 8000000 in
set_option maxRecDepth 100000 in
theorem law_joins (y : ByteArray) (v : Value) (xs : List ByteArray) (hy : y.size ≤ maxLen) (h : StrsRd w v xs) (hz : ∀ x ∈ xs, x.size ≤ maxLen) (hl : xs.length ≤ maxLen) :
    Calls Tryd.prog 4 #[.string y, v] w (Made (.bool true) w) := by
  have H := Lib.hid h
  have HZ := Lib.hid hz
  obtain ⟨ao, cap, rfl⟩ := h.shape
  unfold maxLen at hl hy
  clear h hz
  by_cases h20 : 20 < xs.length
  · go_enter Tryd.func4, Tryd.ntmps4
    go_wp2_with fail
    refine (law_awake5 _).mono ?_
    rintro e w2 ⟨rfl, hb⟩
    go_wp2_with fail
    go_ret
    exact ⟨rfl, hb⟩
  · by_cases h60 : 60 < y.size
    · go_enter Tryd.func4, Tryd.ntmps4
      go_wp2_with fail
      refine (law_awake5 _).mono ?_
      rintro e w2 ⟨rfl, hb⟩
      go_wp2_with fail
      go_ret
      exact ⟨rfl, hb⟩
    · have hl20 : xs.length ≤ 20 := by omega
      have hy60 : y.size ≤ 60 := by omega
      clear hl hy
      obtain ⟨i0, hi0, hz0, hz1, hz2⟩ := info_parts info_val
      go_enter Tryd.func4, Tryd.ntmps4
      go_wp2_with fail
      clear h20 h60
      go_loopg [5, 6, 7] xs.length (fun m sv rv iv wr => ∃ i : Nat, iv = .int .i64 i ∧ sv = .string (catB (weave y (xs.take i))) ∧ xs.length - i ≤ m ∧ i ≤ xs.length ∧ (∀ x ∈ xs.take i, x.size ≤ 60) ∧ Below w.heap.size w wr ∧ wr.ownsRow w.heap.size 27 4 rv i (rowCells ((xs.take i).map tp)))
      case atStart => exact ⟨0, rfl, rfl, Nat.le_refl _, Nat.zero_le _, (fun x h => by simp at h), Below.refl _ _, own_none _ _ _ _⟩
      case round =>
        obtain ⟨i, rfl, rfl, hm, hi, ha, hb, ho⟩ := hrel
        obtain ⟨rao, rcap, rfl⟩ := own_len ho
        have HM := Lib.hid hm
        have HA := Lib.hid ha
        have BR := Lib.hid hb
        have O := Lib.hid ho
        have cs : (catB (weave y (xs.take i))).size ≤ 2400 := by
          rw [catB_size]
          have h1 := jsum_le (weave_mem hy60 ha)
          have h2 := weave_len y (xs.take i)
          have h3 : (xs.take i).length ≤ 20 := by simp; omega
          have h4 : (weave y (xs.take i)).length * 60 ≤ 40 * 60 := Nat.mul_le_mul_right _ (by omega)
          omega
        clear hm ha hb ho
        by_cases hil : i < xs.length
        · obtain ⟨x, hx⟩ : ∃ x, xs[i]? = some x := ⟨_, List.getElem?_eq_getElem hil⟩
          have hxs := HZ.out x (List.mem_of_getElem? hx)
          unfold maxLen at hxs
          obtain ⟨ao2, cap2, e2, -, -, hc⟩ := (H.out.below BR.out)
          simp only [Value.slice.injEq, true_and] at e2
          obtain ⟨rfl, rfl⟩ := e2
          obtain ⟨g, o, rfl, c0⟩ := hc i x hx
          have HX := Lib.hid hx
          clear hc hx
          by_cases hb : x.size ≤ 60
          · have TK := Lib.hid (show xs.take (i + 1) = xs.take i ++ [x] by rw [List.take_add_one, HX.out]; rfl)
            have TS := Lib.hid (show rowCells ((xs.take (i + 1)).map tp) = rowCells ((xs.take i).map tp) ++ pairCells (tp x) by rw [TK.out, List.map_append, ← rowCells_snoc]; rfl)
            have HA2 := Lib.hid (show ∀ z ∈ xs.take (i + 1), z.size ≤ 60 by
              intro z hz
              rw [TK.out, List.mem_append] at hz
              rcases hz with hz | hz
              · exact HA.out z hz
              · simp at hz; rw [hz]; exact hb)
            have WN0 := Lib.hid (show i = 0 → catB (weave y (xs.take (i + 1))) = catB (weave y (xs.take i)) ++ x from fun e => by
              rw [TK.out, weave_snoc, if_pos (by rw [e]; rfl), e]; exact catB_snoc [] x)
            have WN1 := Lib.hid (show ¬ i = 0 → catB (weave y (xs.take (i + 1))) = (catB (weave y (xs.take i)) ++ y) ++ x from fun e => by
              rw [TK.out, weave_snoc, if_neg (by
                intro h
                have h2 : (xs.take i).length = i := by simp; omega
                rw [h] at h2
                exact e h2.symm), catB_snoc, catB_snoc])
            have NW := Lib.hid (news_new wr #[.int .i64 2, .int .i64 0, .string x, .slice none 0 0] 27)
            generalize hsc : catB (weave y (xs.take i)) = sc at *
            clear hsc
            by_cases h0 : i = 0
            · have hnp : ¬ 0 < i := by omega
              have SC := Lib.hid (WN0.out h0)
              clear h0 WN0 WN1
              go_wp2_with (at_builtin; refine wpList_append_own _ rfl _ _ 25 rfl w.heap.size 27 i0 _ 4 56 Tryd.underlying25 hi0 hz0 hz1 hz2 rfl (by decide) (.slice rao i rcap) i (rowCells ((xs.take i).map tp)) rfl (O.out.alloc _) ⟨wr.heap.size, 0, none⟩ 1 1 [.int .i64 2, .int .i64 0, .string x, .slice none 0 0] rfl rfl ?a1 ?b1 ?c1 ?d1 ?e1 ?_)
              try case a1 => exact NW.out
              case b1 => simp [Value.oneCell']
              case c1 => unfold maxLen; omega
              case d1 => omega
              case e1 => have := BR.out.size; simp; omega
              intro v' w6 hown hgrow _
              have BZ := Lib.hid (below_grown BR.out hgrow (fun k hk => (World.ownsRow.lt O.out k hk).1))
              have OZ := Lib.hid (show w6.ownsRow w.heap.size 27 4 v' (i + 1) (rowCells ((xs.take (i + 1)).map tp)) by rw [TS.out, List.map_take]; exact hown)
              clear hown hgrow
              go_wp2_with fail
              go_roundg (xs.length - (i + 1))
              case rel => exact ⟨i + 1, rfl, by rw [SC.out], Nat.le_refl _, hil, HA2.out, BZ.out, OZ.out⟩
              case measure => have := HM.out; omega
            · have hpos : 0 < i := by omega
              have SC := Lib.hid (WN1.out h0)
              clear h0 WN0 WN1
              have hsy : (sc ++ y).size ≤ 2460 := by rw [ByteArray.size_append]; omega
              go_wp2_with (at_builtin; refine wpList_append_own _ rfl _ _ 25 rfl w.heap.size 27 i0 _ 4 56 Tryd.underlying25 hi0 hz0 hz1 hz2 rfl (by decide) (.slice rao i rcap) i (rowCells ((xs.take i).map tp)) rfl (O.out.alloc _) ⟨wr.heap.size, 0, none⟩ 1 1 [.int .i64 2, .int .i64 0, .string x, .slice none 0 0] rfl rfl ?a2 ?b2 ?c2 ?d2 ?e2 ?_)
              try case a2 => exact NW.out
              case b2 => simp [Value.oneCell']
              case c2 => unfold maxLen; omega
              case d2 => omega
              case e2 => have := BR.out.size; simp; omega
              intro v' w6 hown hgrow _
              have BZ := Lib.hid (below_grown BR.out hgrow (fun k hk => (World.ownsRow.lt O.out k hk).1))
              have OZ := Lib.hid (show w6.ownsRow w.heap.size 27 4 v' (i + 1) (rowCells ((xs.take (i + 1)).map tp)) by rw [TS.out, List.map_take]; exact hown)
              clear hown hgrow
              go_wp2_with fail
              go_roundg (xs.length - (i + 1))
              case rel => exact ⟨i + 1, rfl, by rw [SC.out], Nat.le_refl _, hil, HA2.out, BZ.out, OZ.out⟩
              case measure => have := HM.out; omega
          · generalize catB (weave y (xs.take i)) = sc at *
            have hb2 : 60 < x.size := by omega
            clear hb HX
            go_wp2_with fail
            refine (law_awake5 _).mono ?_
            rintro e w2 ⟨rfl, hb⟩
            have K := Lib.hid (below_tr BR.out hb)
            clear hb
            go_wp2_with fail
            go_ret
            exact ⟨rfl, K.out⟩
        · have e : xs.take i = xs := List.take_of_length_le (by omega)
          have ei : i = xs.length := by omega
          have RD := Lib.hid (tp_rd (by have h := O.out; rw [e, ei] at h; exact h) (by omega))
          rw [e] at cs HA ⊢
          subst ei
          clear e hil hi HM O
          have J := Lib.hid (fun W (hw : Below wr.heap.size wr W) g hg => t_join W y xs (.slice ao 0 0) _ (RD.out.below hw) g hg (by omega) (by omega) (fun x hx => Nat.le_trans (HA.out x hx) (by omega)))
          have CZ := Lib.hid (catB_size (weave y xs))
          by_cases h4 : jsum (weave y xs) ≤ 400
          · have JR := Lib.hid (show joinR (weave y xs) = (vstr (catB (weave y xs)), 0) from if_pos h4)
            have c4 : (catB (weave y xs)).size ≤ 400 := by rw [CZ.out]; exact h4
            clear h4 cs
            have J2 := Lib.hid (fun W (hw : Below wr.heap.size wr W) g hg => show Calls _ _ _ W (IsTold 2 0 (catB (weave y xs)) 0 W) from by have h := J.out W hw g hg; rw [JR.out] at h; exact h)
            clear J JR CZ
            generalize catB (weave y xs) = cx at *
            go_wp2_with fail
            refine (J2.out _ (below_al (Below.refl _ _) _) wr.heap.size (heap_at rfl)).mono ?_
            rintro e w2 ⟨rfl, hb⟩
            have K := Lib.hid (show Kept w w2 from below_tr (below_al BR.out _) hb)
            clear hb
            go_wp2_with fail
            have X := Lib.hid (NBlk.new w2 2 0 cx)
            replace K := Lib.hid (kept_al K.out (.cells #[.int .i64 2, .int .i64 0, .string cx, .slice none 0 0] 27))
            refine (lnum _ _).mono ?_
            rintro e w' ⟨rfl, rfl⟩
            obtain ⟨x0, x1, x2, x3, xl⟩ := X.out.cells
            have gs : (cx.toList == cx.toList) = true := by simp
            go_wp2_with fail
            refine (law_awake5 _).mono ?_
            rintro e w4 ⟨rfl, hb⟩
            replace K := Lib.hid (kept_tr K.out hb)
            clear hb
            go_wp2_with fail
            go_ret
            exact ⟨rfl, K.out⟩
          · have JR := Lib.hid (show joinR (weave y xs) = (vz, 4) from if_neg h4)
            have c4 : 400 < (catB (weave y xs)).size := by rw [CZ.out]; omega
            clear h4
            have J2 := Lib.hid (fun W (hw : Below wr.heap.size wr W) g hg => show Calls _ _ _ W (IsTold 0 0 ⟨#[]⟩ 4 W) from by have h := J.out W hw g hg; rw [JR.out] at h; exact h)
            clear J JR CZ
            generalize catB (weave y xs) = cx at *
            go_wp2_with fail
            refine (J2.out _ (below_al (Below.refl _ _) _) wr.heap.size (heap_at rfl)).mono ?_
            rintro e w2 ⟨rfl, hb⟩
            have K := Lib.hid (show Kept w w2 from below_tr (below_al BR.out _) hb)
            clear hb
            go_wp2_with fail
            refine (lnum _ _).mono ?_
            rintro e w' ⟨rfl, rfl⟩
            go_wp2_with fail
            refine (law_awake5 _).mono ?_
            rintro e w4 ⟨rfl, hb⟩
            replace K := Lib.hid (kept_tr (kept_al K.out _) hb)
            clear hb
            go_wp2_with fail
            go_ret
            exact ⟨rfl, K.out⟩
end
end Go.Proofs.YtihlbnflgjidaabDoor
