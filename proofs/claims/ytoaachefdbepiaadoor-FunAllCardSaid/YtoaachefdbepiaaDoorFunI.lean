/- Package fun: concat, range. -/
import Derived.Test.YtoaachefdbepiaaDoorFunF
import Derived.Test.YtoaachefdbepiaaDoorOwnW
namespace Go.Proofs.YtoaachefdbepiaaDoor
open Go.RowKit
set_option linter.unusedVariables false
set_option linter.unusedSimpArgs false

def catV (l : List VL) : List VL := l.flatMap VL.kids
/-- What is told of a list of these values: it, or that it may not be. -/
def Listed (D : Nat) (l : List VL) (w : World) (e : Ending) (w' : World) : Prop :=
  (mayB 64 (vlist l) = true → Gives D 4 0 ⟨#[]⟩ l w e w') ∧ (mayB 64 (vlist l) = false → IsTold 0 0 ⟨#[]⟩ 4 w e w')
theorem listed_ok {D : Nat} {l : List VL} {w w' : World} {e : Ending} (hm : mayB 64 (vlist l) = true) (h : Gives D 4 0 ⟨#[]⟩ l w e w') : Listed D l w e w' :=
  And.intro (fun _ => h) (fun k => absurd (hm.symm.trans k) (by decide))
theorem listed_bad {D : Nat} {l : List VL} {w w' : World} {e : Ending} (hm : mayB 64 (vlist l) = false) (h : IsTold 0 0 ⟨#[]⟩ 4 w e w') : Listed D l w e w' :=
  And.intro (fun k => absurd (hm.symm.trans k) (by decide)) (fun _ => h)
theorem may_long {l : List VL} (h : 64 < l.length) : mayB 64 (vlist l) = false := by
  cases hm : mayB 64 (vlist l) with
  | false => rfl
  | true =>
    have := (may_kids hm).1
    have e : (vlist l).kids = l := rfl
    rw [e] at this; omega
theorem catV_take_len (l : List VL) (i : Nat) : (catV (l.take i)).length ≤ (catV l).length := by
  have : catV l = catV (l.take i) ++ catV (l.drop i) := by unfold catV; rw [← List.flatMap_append, List.take_append_drop]
  rw [this, List.length_append]; omega
section
variable (w : World)
set_option maxHeartbeats 8000000 in
set_option maxRecDepth 20000 in
theorem fconcat (D : Nat) (l : List VL) (lv : Value) (h : RowRd w D l lv) (hl : l.length ≤ 1000) (hk : ∀ v ∈ l, v.kids.length ≤ 1000) :
    Calls Tryd.prog 34 #[lv] w (Listed (D - 1 - 1 + 1) (catV l) w) := by
  have H0 := Lib.hid h
  have HK := Lib.hid hk
  obtain ⟨i0, hi0, hz0, hz1, hz2⟩ := info_parts info_val
  obtain ⟨ao, cap, rfl⟩ := h.shape
  clear h hk
  go_enter Tryd.func34, Tryd.ntmps34
  go_wp2_with fail
  have R := Lib.hid (NBlk.new w 0 0 ⟨#[]⟩)
  have B0 := Lib.hid (show Kept w _ from below_al (Below.refl w.heap.size w) (.cells #[.int .i64 0, .int .i64 0, .string ⟨#[]⟩, .slice none 0 0] 26))
  generalize w.alloc (.cells #[.int .i64 0, .int .i64 0, .string ⟨#[]⟩, .slice none 0 0] 26) = wa at *
  generalize hG : w.heap.size = G at R ⊢
  have HG := Lib.hid hG
  clear hG
  have H := Lib.hid (H0.out.below B0.out)
  clear H0
  go_loopg [4, 9] l.length (fun m rv iv wr => ∃ (i : Nat) (ps : List (VL × Value)), iv = .int .i64 i ∧ l.length - i ≤ m ∧ i ≤ l.length ∧ ps.map (·.1) = catV (l.take i) ∧ ps.length ≤ 64 ∧ Below wa.heap.size wa wr ∧ wr.ownsRow wa.heap.size 26 4 rv ps.length (rowCells ps) ∧ KidsRd wa (D - 1 - 1) ps)
  case atStart => exact ⟨0, [], rfl, Nat.le_refl _, Nat.zero_le _, rfl, Nat.zero_le _, Below.refl _ _, own_none _ _ _ _, KidsRd.nil _ _⟩
  case round =>
    obtain ⟨i, ps, rfl, hm, hi, hps, hpl, hb, ho, hkr⟩ := hrel
    obtain ⟨rao, rcap, rfl⟩ := own_len ho
    have HM := Lib.hid hm
    have BR := Lib.hid hb
    have O := Lib.hid ho
    have PS := Lib.hid hps
    have KR := Lib.hid hkr
    have PL := Lib.hid hpl
    clear hm hb ho hps hkr hpl
    by_cases hil : i < l.length
    · obtain ⟨u, hu⟩ : ∃ u, l[i]? = some u := ⟨_, List.getElem?_eq_getElem hil⟩
      obtain ⟨ao2, cap2, e2, hat⟩ := H.out.at
      simp only [Value.slice.injEq, true_and] at e2
      obtain ⟨rfl, rfl⟩ := e2
      obtain ⟨g2, o2, lu, rfl, -, q0, q1, q2, q3, hr⟩ := hat i u hu
      obtain ⟨lao, lcap, rfl⟩ := hr.shape
      have k0 := hold BR.out q0
      have k1 := hold BR.out q1
      have k2 := hold BR.out q2
      have k3 := hold BR.out q3
      clear q0 q1 q2 q3
      have UK := Lib.hid (HK.out u (List.mem_of_getElem? hu))
      have TK := Lib.hid (show catV (l.take (i + 1)) = catV (l.take i) ++ u.kids by unfold catV; rw [List.take_add_one, hu]; simp)
      have BW := Lib.hid (below_al BR.out (.cells #[.int .i64 u.kind, .int .i64 u.num, .string u.text, .slice lao u.kids.length lcap] 26))
      have OW := Lib.hid (O.out.alloc (.cells #[.int .i64 u.kind, .int .i64 u.num, .string u.text, .slice lao u.kids.length lcap] 26))
      have OB := Lib.hid (fun k hk => World.ownsRow.lt O.out k hk)
      obtain ⟨qs, hq1, hq2, hq3, hq4, hq5⟩ := row_src hr
      have Q1 := Lib.hid hq1
      have Q2 := Lib.hid hq2
      have Q3 := Lib.hid hq3
      have Q4 := Lib.hid hq4
      have Q5 := Lib.hid (fun ad had j u hj => hold BW.out (hq5 ad had j u hj))
      clear hat hu hr hq1 hq2 hq3 hq4 hq5
      go_wp2_with (at_builtin; refine wpList_append_any _ rfl _ _ 22 rfl wa.heap.size 26 i0 _ 4 56 Tryd.underlying22 hi0 hz0 hz1 hz2 rfl (by decide) (.slice rao ps.length rcap) ps.length (rowCells ps) rfl OW.out lao u.kids.length lcap (rowCells qs) rfl ?a1 Q4.out Q5.out ?b1 ?c1 ?d1 ?e1 ?_)
      case a1 => rw [rowCells_len, Q2.out]
      case b1 => exact Q3.out.one
      case c1 => have := PL.out; have := UK.out; unfold maxLen; omega
      case d1 => have := PL.out; have := UK.out; omega
      case e1 => exact BW.out.size
      intro v' w6 hown hgrow
      have BZ := Lib.hid (below_grown' BW.out hgrow (fun k hk => (OB.out k hk).1))
      have OZ := Lib.hid (show w6.ownsRow wa.heap.size 26 4 v' (ps ++ qs).length (rowCells (ps ++ qs)) by rw [rowCells_app, List.length_append, Q2.out]; exact hown)
      have KZ := Lib.hid (KR.out.app Q3.out)
      have PZ := Lib.hid (show (ps ++ qs).map (·.1) = catV (l.take (i + 1)) by rw [List.map_append, PS.out, Q1.out, TK.out])
      have LZ := Lib.hid (show (ps ++ qs).length ≤ 1064 by rw [List.length_append, Q2.out]; have := PL.out; have := UK.out; omega)
      obtain ⟨vao, vcap, rfl⟩ := own_len OZ.out
      clear hown hgrow k0 k1 k2 k3 O PS KR PL TK OW OB Q1 Q2 Q3 Q4 Q5
      generalize ps ++ qs = ps2 at *
      by_cases h64 : 64 < ps2.length
      · have LB := Lib.hid (may_long (l := catV (l.take (i + 1))) (by rw [← PZ.out, List.length_map]; exact h64))
        have LC := Lib.hid (may_long (l := catV l) (by have := catV_take_len l (i + 1); rw [← PZ.out, List.length_map] at this; omega))
        have RD := Lib.hid (row_of_own (D := D - 1 - 1) OZ.out (by have := LZ.out; unfold maxLen; omega) (KZ.out.below BZ.out))
        rw [PZ.out] at RD
        have RL := Lib.hid (show (catV (l.take (i + 1))).length = ps2.length by rw [← PZ.out, List.length_map])
        have LL := Lib.hid (fun W (hw : Below w6.heap.size w6 W) => vlist_bad W _ _ _ (RD.out.below hw) LB.out)
        go_wp2_with fail
        refine (LL.out _ (Below.refl _ _)).mono ?_
        rintro e w2 ⟨rfl, hb2⟩
        obtain ⟨⟨r0, r1, r2, r3, rl⟩, f0, f1, f2, f3⟩ := ((R.out.below BZ.out).below hb2).full
        have B2 := Lib.hid (below_tr (below_tr B0.out BZ.out) hb2)
        clear hb2
        go_wp2_with fail
        exact bodyPost_ret (v := .tuple #[.agg #[.int .i64 0, .int .i64 0, .string ⟨#[]⟩, .slice none 0 0], .int .i64 4]) (by simp [results, Tryd.results34, go_sem, r0, r1, r2, r3]) rfl (listed_bad LC.out ⟨rfl, below_set4 B2.out (by have := HG.out; omega) _ _ _ _⟩)
      · have LE := Lib.hid (show ps2.length ≤ 64 by omega)
        go_wp2_with fail
        go_roundg (l.length - (i + 1))
        case rel => exact ⟨i + 1, ps2, rfl, Nat.le_refl _, hil, PZ.out, LE.out, BZ.out, OZ.out, KZ.out⟩
        case measure => have := HM.out; omega
    · have e : l.take i = l := List.take_of_length_le (by omega)
      have RD := Lib.hid (row_of_own (D := D - 1 - 1) O.out (by have := PL.out; unfold maxLen; omega) (KR.out.below BR.out))
      rw [PS.out, e] at RD
      have RL := Lib.hid (show (catV l).length = ps.length by rw [← e, ← PS.out, List.length_map])
      clear e
      cases hm : mayB 64 (vlist (catV l))
      · have LC := Lib.hid hm
        have LL := Lib.hid (fun W (hw : Below wr.heap.size wr W) => vlist_bad W _ _ _ (RD.out.below hw) LC.out)
        clear hm
        go_wp2_with fail
        refine (LL.out _ (Below.refl _ _)).mono ?_
        rintro e w2 ⟨rfl, hb2⟩
        obtain ⟨⟨r0, r1, r2, r3, rl⟩, f0, f1, f2, f3⟩ := ((R.out.below BR.out).below hb2).full
        have B2 := Lib.hid (below_tr (below_tr B0.out BR.out) hb2)
        clear hb2
        go_wp2_with fail
        exact bodyPost_ret (v := .tuple #[.agg #[.int .i64 0, .int .i64 0, .string ⟨#[]⟩, .slice none 0 0], .int .i64 4]) (by simp [results, Tryd.results34, go_sem, r0, r1, r2, r3]) rfl (listed_bad LC.out ⟨rfl, below_set4 B2.out (by have := HG.out; omega) _ _ _ _⟩)
      · have LC := Lib.hid hm
        have LL := Lib.hid (fun W (hw : Below wr.heap.size wr W) => vlist_ok W _ _ _ (RD.out.below hw) LC.out)
        clear hm
        go_wp2_with fail
        refine (LL.out _ (Below.refl _ _)).mono ?_
        rintro e w2 ⟨lv', rfl, hin, hb2⟩
        obtain ⟨lao', lcap', rfl⟩ := hin.rd.shape
        have HIN := Lib.hid hin
        obtain ⟨⟨r0, r1, r2, r3, rl⟩, f0, f1, f2, f3⟩ := ((R.out.below BR.out).below hb2).full
        have B2 := Lib.hid (below_tr (below_tr B0.out BR.out) hb2)
        have B1 := Lib.hid (below_tr B0.out BR.out)
        have LT := Lib.hid ((R.out.below BR.out).lt)
        clear hb2 hin
        go_wp2_with fail
        refine bodyPost_ret (v := .tuple #[.agg #[.int .i64 4, .int .i64 0, .string ⟨#[]⟩, .slice lao' (catV l).length lcap'], .int .i64 0]) (by simp [results, Tryd.results34, go_sem, r0, r1, r2, r3]) rfl (listed_ok LC.out ⟨.slice lao' (catV l).length lcap', rfl, ?_, below_set4 B2.out (by have := HG.out; omega) _ _ _ _⟩)
        exact RowIn.keep (fun g hg => by have := B1.out.size; omega) (fun _ _ _ _ h => h) (set4_in HIN.out (by have := LT.out; omega) _ _ _ _)
end
end Go.Proofs.YtoaachefdbepiaaDoor
