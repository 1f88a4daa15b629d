/- Package fun: range; rows of numbers. -/
import Derived.Test.YtoaachefdbepiaaDoorFunI
namespace Go.Proofs.YtoaachefdbepiaaDoor
open Go.RowKit
set_option linter.unusedVariables false
set_option linter.unusedSimpArgs false

def np (n : Int) : VL × Value := (vnum n, .slice none 0 0)
theorem np_rd {w : World} {B : Nat} {v : Value} {xs : List Int} (h : w.ownsRow B 26 4 v xs.length (rowCells (xs.map np))) (hk : xs.length ≤ 100000) : RowRd w 1 (xs.map vnum) v := by
  have h1 := row_of_own (D := 0) (ps := xs.map np) (by rw [List.length_map]; exact h) (by rw [List.length_map]; unfold maxLen; omega) (fun p hp => by
    obtain ⟨x, -, rfl⟩ := List.mem_map.1 hp; exact RowRd.nil _ _ _ _)
  rw [List.map_map] at h1
  exact h1
theorem empty_text : (⟨#[]⟩ : ByteArray).toList.isEmpty = true := by kernel_rfl
theorem may_num (d : Nat) (x : Int) : mayB d (vnum x) = true := by
  have hl : leafB (vnum x) = true := by
    show (if (1 : Int) = 1 then (⟨#[]⟩ : ByteArray).toList.isEmpty && ([] : List VL).length == 0 else _) = true
    rw [if_pos rfl, empty_text]; rfl
  cases d with
  | zero => exact hl
  | succ d =>
    show (if (1 : Int) = 4 then _ else leafB (vnum x)) = true
    rw [if_neg (by decide)]; exact hl
theorem may_nums {xs : List Int} (h : xs.length ≤ 64) : mayB 64 (vlist (xs.map vnum)) = true := by
  show (if (4 : Int) = 4 then (0 : Int) == 0 && (⟨#[]⟩ : ByteArray).toList.isEmpty && decide ((xs.map vnum).length ≤ 64) && (xs.map vnum).all (mayB 63) else _) = true
  rw [if_pos rfl]
  have h1 : (xs.map vnum).all (mayB 63) = true := by
    rw [List.all_eq_true]
    intro v hv
    obtain ⟨x, -, rfl⟩ := List.mem_map.1 hv
    exact may_num 63 x
  rw [h1, empty_text, decide_eq_true (by rw [List.length_map]; exact h)]
  rfl
def upTo (n : Nat) : List Int := (List.range n).map fun (i : Nat) => (i : Int)
theorem upTo_succ (n : Nat) : upTo (n + 1) = upTo n ++ [(n : Int)] := by simp [upTo, List.range_succ]
theorem upTo_len (n : Nat) : (upTo n).length = n := by simp [upTo]
section
variable (w : World)
set_option maxHeartbeats 8000000 in
set_option maxRecDepth 20000 in
theorem fcount_bad (D : Nat) (v : VL) (lv : Value) (h : RowRd w D [v] lv) (hn : v.num < 0 ∨ 64 < v.num) : Calls Tryd.prog 36 #[lv] w (IsTold 0 0 ⟨#[]⟩ (if v.num < 0 then 1 else 4) w) := by
  obtain ⟨ao, cap, rfl, hat⟩ := h.at
  obtain ⟨g, o, lu, rfl, -, c0, c1, c2, c3, hr⟩ := hat 0 v rfl
  obtain ⟨lao, lcap, rfl⟩ := hr.shape
  simp only [Nat.zero_mul, Nat.add_zero] at c0 c1 c2 c3
  have hg : g < w.heap.size := World.block_lt_of_cell? w _ c0
  clear hat hr h
  by_cases h0 : v.num < 0
  · rw [if_pos h0]
    clear hn
    go_enter Tryd.func36, Tryd.ntmps36
    go_wp2_with fail
    exact bodyPost_ret (v := .tuple #[.agg #[.int .i64 0, .int .i64 0, .string ⟨#[]⟩, .slice none 0 0], .int .i64 1]) (by simp [results, Tryd.results36, go_sem]) rfl ⟨rfl, below_al (Below.refl _ _) _⟩
  · rw [if_neg h0]
    have h64 : 64 < v.num := by omega
    clear hn
    go_enter Tryd.func36, Tryd.ntmps36
    go_wp2_with fail
    exact bodyPost_ret (v := .tuple #[.agg #[.int .i64 0, .int .i64 0, .string ⟨#[]⟩, .slice none 0 0], .int .i64 4]) (by simp [results, Tryd.results36, go_sem]) rfl ⟨rfl, below_al (Below.refl _ _) _⟩
set_option maxHeartbeats 8000000 in
set_option maxRecDepth 20000 in
theorem fcount_ok (D : Nat) (v : VL) (lv : Value) (h : RowRd w D [v] lv) (n : Nat) (hn : v.num = (n : Int)) (h64 : n ≤ 64) : Calls Tryd.prog 36 #[lv] w (Gives 1 4 0 ⟨#[]⟩ ((upTo n).map vnum) w) := by
  obtain ⟨ao, cap, rfl, hat⟩ := h.at
  obtain ⟨g, o, lu, rfl, -, c0, c1, c2, c3, hr⟩ := hat 0 v rfl
  obtain ⟨lao, lcap, rfl⟩ := hr.shape
  obtain ⟨i0, hi0, hz0, hz1, hz2⟩ := info_parts info_val
  simp only [Nat.zero_mul, Nat.add_zero] at c0 c1 c2 c3
  rw [hn] at c1
  have hg : g < w.heap.size := World.block_lt_of_cell? w _ c0
  clear hat hr h hn
  have hn0 : ¬ (n : Int) < 0 := by omega
  have hn1 : ¬ (64 : Int) < (n : Int) := by omega
  go_enter Tryd.func36, Tryd.ntmps36
  go_wp2_with fail
  have R := Lib.hid (NBlk.new w 0 0 ⟨#[]⟩)
  have B0 := Lib.hid (show Kept w _ from below_al (Below.refl w.heap.size w) (.cells #[.int .i64 0, .int .i64 0, .string ⟨#[]⟩, .slice none 0 0] 26))
  generalize w.alloc (.cells #[.int .i64 0, .int .i64 0, .string ⟨#[]⟩, .slice none 0 0] 26) = wa at *
  generalize hG : w.heap.size = G at R ⊢
  have HG := Lib.hid hG
  clear hG c0 c1 c2 c3 hg hn0 hn1
  go_loopg [5, 20] n (fun m rv iv wr => ∃ i : Nat, iv = .int .i64 i ∧ n - i ≤ m ∧ i ≤ n ∧ Below wa.heap.size wa wr ∧ wr.ownsRow wa.heap.size 26 4 rv i (rowCells ((upTo i).map np)))
  case atStart => exact ⟨0, rfl, Nat.le_refl _, Nat.zero_le _, Below.refl _ _, own_none _ _ _ _⟩
  case round =>
    obtain ⟨i, rfl, hm, hi, hb, ho⟩ := hrel
    obtain ⟨rao, rcap, rfl⟩ := own_len ho
    have HM := Lib.hid hm
    have BR := Lib.hid hb
    have O := Lib.hid ho
    clear hm hb ho
    by_cases hil : i < n
    · have TS := Lib.hid (show rowCells ((upTo (i + 1)).map np) = rowCells ((upTo i).map np) ++ pairCells (np i) by rw [upTo_succ, List.map_append, ← rowCells_snoc]; rfl)
      go_wp2_with fail
      with_reducible refine (finteger _ _).mono ?_
      rintro e w2 ⟨rfl, hb2⟩
      have B2 := Lib.hid (below_tr BR.out hb2)
      have O2 := Lib.hid (own_below O.out hb2)
      have NW := Lib.hid (news_new w2 #[.int .i64 1, .int .i64 i, .string ⟨#[]⟩, .slice none 0 0] 26)
      clear hb2
      go_wp2_with (at_builtin; refine wpList_append_own _ rfl _ _ 22 rfl wa.heap.size 26 i0 _ 4 56 Tryd.underlying22 hi0 hz0 hz1 hz2 rfl (by decide) (.slice rao i rcap) i (rowCells ((upTo i).map np)) rfl (O2.out.alloc _) ⟨w2.heap.size, 0, none⟩ 1 1 [.int .i64 1, .int .i64 i, .string ⟨#[]⟩, .slice none 0 0] rfl rfl ?a1 ?b1 ?c1 ?d1 ?e1 ?_)
      try case a1 => exact NW.out
      case b1 => simp [Value.oneCell']
      case c1 => unfold maxLen; omega
      case d1 => omega
      case e1 => have := B2.out.size; simp; omega
      intro v' w6 hown hgrow _
      have BZ := Lib.hid (below_grown B2.out hgrow (fun k hk => (World.ownsRow.lt O.out k hk).1))
      have OZ := Lib.hid (show w6.ownsRow wa.heap.size 26 4 v' (i + 1) (rowCells ((upTo (i + 1)).map np)) by rw [TS.out]; exact hown)
      clear hown hgrow
      go_wp2_with fail
      go_roundg (n - (i + 1))
      case rel => exact ⟨i + 1, rfl, Nat.le_refl _, hil, BZ.out, OZ.out⟩
      case measure => have := HM.out; omega
    · have e : n = i := by omega
      subst e
      have RD := Lib.hid (np_rd (xs := upTo n) (by rw [upTo_len]; exact O.out) (by rw [upTo_len]; omega))
      have RL := Lib.hid (show ((upTo n).map vnum).length = n by rw [List.length_map, upTo_len])
      have LL := Lib.hid (fun W (hw : Below wr.heap.size wr W) => vlist_ok W _ _ _ (RD.out.below hw) (may_nums (by rw [upTo_len]; exact h64)))
      go_wp2_with fail
      refine (LL.out _ (Below.refl _ _)).mono ?_
      rintro e w2 ⟨lv', rfl, hin, hb2⟩
      obtain ⟨lao', lcap', rfl⟩ := hin.rd.shape
      have HIN := Lib.hid hin
      obtain ⟨⟨r0, r1, r2, r3, rl⟩, f0, f1, f2, f3⟩ := ((R.out.below BR.out).below hb2).full
      have B2 := Lib.hid (below_tr (below_tr B0.out BR.out) hb2)
      have B1 := Lib.hid (below_tr B0.out BR.out)
      have LT := Lib.hid ((R.out.below BR.out).lt)
      clear hb2 hin
      generalize (upTo n).map vnum = ul at *
      go_wp2_with fail
      refine bodyPost_ret (v := .tuple #[.agg #[.int .i64 4, .int .i64 0, .string ⟨#[]⟩, .slice lao' ul.length lcap'], .int .i64 0]) (by simp [results, Tryd.results36, go_sem, r0, r1, r2, r3]) rfl ⟨.slice lao' ul.length lcap', rfl, ?_, below_set4 B2.out (by have := HG.out; omega) _ _ _ _⟩
      exact RowIn.keep (fun g hg => by have := B1.out.size; omega) (fun _ _ _ _ h => h) (set4_in HIN.out (by have := LT.out; omega) _ _ _ _)
end
end Go.Proofs.YtoaachefdbepiaaDoor
