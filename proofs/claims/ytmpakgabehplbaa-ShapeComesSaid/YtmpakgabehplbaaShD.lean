/- Trees that change: the document's Delete, Do; walked. -/
import Derived.Test.YtmpakgabehplbaaShC
namespace Go.Proofs.Ytmpakgabehplbaa
open Go.RowKit
set_option linter.unusedVariables false
set_option linter.unusedSimpArgs false
theorem del_at {l : List I12} (hu : Uq l) {k : Nat} {x : I12} {s : ByteArray} (hk : l[k]? = some x) (hn : x.name = s) : delL l s = l.take k ++ l.drop (k + 1) := by
  obtain ⟨hkl, he⟩ := List.getElem?_eq_some_iff.1 hk
  have e : l = l.take k ++ x :: l.drop (k + 1) := by
    rw [← he, ← List.drop_eq_getElem_cons hkl, List.take_append_drop]
  unfold delL
  conv => lhs; rw [e]
  rw [List.filter_append, List.filter_cons, if_neg (by rw [decide_eq_true hn]; decide)]
  congr 1
  · refine List.filter_eq_self.2 fun y hy => ?_
    obtain ⟨j, hj, rfl⟩ := List.mem_iff_getElem.1 hy
    rw [List.length_take] at hj
    rw [List.getElem_take]
    have : (l[j]'(by omega)).name ≠ s := fun e2 => by
      have := uq_at hu (List.getElem?_eq_getElem (show j < l.length by omega)) hk (e2.trans hn.symm)
      omega
    rw [decide_eq_false this]; rfl
  · refine List.filter_eq_self.2 fun y hy => ?_
    obtain ⟨j, hj, rfl⟩ := List.mem_iff_getElem.1 hy
    rw [List.length_drop] at hj
    rw [List.getElem_drop]
    have : (l[k + 1 + j]'(by omega)).name ≠ s := fun e2 => by
      have := uq_at hu (List.getElem?_eq_getElem (show k + 1 + j < l.length by omega)) hk (e2.trans hn.symm)
      omega
    rw [decide_eq_false this]; rfl
section
variable (w : World)
set_option maxHeartbeats 16000000 in
set_option maxRecDepth 100000 in
theorem rdelete (l : List I12) (lv : Value) (h : IRow w l lv) (hr : RT l) (s : ByteArray) (ver : Int) :
    Calls Try.prog 22 #[lv, .string s, .int .i64 ver] w (GrownI (delE l s ver) (delL l s) w) := by
  obtain ⟨i0, hi0, hz0, hz1, hz2⟩ := info_partsT info_item
  have H0 := Lib.hid h
  have HR := Lib.hid hr
  have hl : l.length ≤ 120 := hr.len
  obtain ⟨ao, cap, rfl⟩ := h.shape
  have CAP := Lib.hid (show l.length ≤ cap ∧ cap ≤ maxLen from by
    obtain ⟨_, _, e9, h1, h2, _⟩ := h
    simp only [Value.slice.injEq, true_and] at e9
    obtain ⟨-, rfl⟩ := e9
    exact ⟨h1, h2⟩)
  clear h hr
  have RN := Lib.hid (fun W (E : Nat) => rno W E)
  have RO := Lib.hid (fun W (hW : Below w.heap.size w W) => rold W l (.slice ao l.length cap) (H0.out.below hW) s ver)
  have RB := Lib.hid (fun W (hW : Below w.heap.size w W) => rbelow W l (.slice ao l.length cap) (H0.out.below hW) (by omega) s)
  have FN := Lib.hid (fun W (hW : Below w.heap.size w W) => rfind W l (.slice ao l.length cap) (H0.out.below hW) s)
  have AE := Lib.hid (show delE l s ver = if oldE l s ver ≠ 0 then oldE l s ver else if (!(belowI l s).isEmpty || !eqV (itAt l s).own z3) = true then 13 else 0 from rfl)
  have B0 := Lib.hid (below_al (Below.refl w.heap.size w) (.cells #[.slice none 0 0, .int .i64 0] 38))
  have G0 := Lib.hid (GBlk.new w (.slice none 0 0) 0)
  go_enter Try.func22, Try.ntmps22
  go_wp2_with fail
  with_reducible refine (RO.out _ B0.out).mono ?_
  rintro e2 w2 ⟨rfl, rfl⟩
  by_cases hE : oldE l s ver = 0
  · have AE2 := Lib.hid (show delE l s ver = if (!(belowI l s).isEmpty || !eqV (itAt l s).own z3) = true then 13 else 0 by rw [AE.out, if_neg (fun h => h hE)])
    obtain ⟨x, hx, ex⟩ := old_look hE
    rw [ex] at AE2
    rw [hE]
    clear hE AE ex
    obtain ⟨k, hf, hk⟩ := find_at hx
    obtain ⟨xm, xn⟩ := look_name hx
    have kl : k < l.length := (List.getElem?_eq_some_iff.1 hk).1
    have y0 : (0 : Int) ≤ (k : Int) := by omega
    have y1 : (k : Int) < (l.length : Int) := by omega
    have HK := Lib.hid hk
    have DL := Lib.hid (del_at HR.out.srt.uq hk xn)
    rw [hf] at FN
    clear hx hf hk xm
    go_wp2_with fail
    with_reducible refine (FN.out _ B0.out).mono ?_
    rintro e3 w3 ⟨rfl, rfl⟩
    go_wp2_with fail
    with_reducible refine (RB.out _ B0.out).mono ?_
    rintro e4 w4 ⟨bv, rfl, h4, o4⟩
    have B4 := Lib.hid (below_tr B0.out h4)
    have G4 := Lib.hid (G0.out.below h4)
    obtain ⟨bo, bc, rfl⟩ := o4.shape
    obtain ⟨gx, ox, rfl, hat⟩ := (H0.out.below B4.out).atP HK.out
    obtain ⟨q0, q1, q2, q3, q4, q5, q6, q7, q8, q9, q10, q11⟩ := hat
    clear h4 o4 RO RB FN q0 q1 q2 q3 q4 q8 q9 q10 q11
    by_cases hb : belowI l s = []
    · have b0 : (belowI l s).length = 0 := by rw [hb]; rfl
      have AE3 := Lib.hid (show delE l s ver = if (!eqV x.own z3) = true then 13 else 0 by rw [AE2.out, hb]; rfl)
      generalize belowI l s = bs at *
      rw [b0]
      clear hb b0 AE2
      by_cases ho : eqV x.own z3 = true
      · have R := Lib.hid (show delE l s ver = 0 by rw [AE3.out, ho]; rfl)
        have ho2 : x.own = z3 := eqV_iff.1 ho
        rw [ho2] at q5 q6 q7
        simp only [z3] at q5 q6 q7
        clear ho ho2 AE3
        obtain ⟨so, hso⟩ : ∃ so, (if cap = k + 1 then some (⟨gx, ox, none⟩ : Addr) else (some (⟨gx, ox, none⟩ : Addr)).map (·.add ((k + 1) * 12))) = so := ⟨_, rfl⟩
        have SL1 : ∀ W, (Instr.slice 22 (.slice (some ⟨gx, ox, none⟩) l.length cap) none (some (.int .i64 (k : Int))) none).run Try.prog W = .ok (.slice (some ⟨gx, ox, none⟩) k cap) W := fun W => isl_take (some ⟨gx, ox, none⟩) l.length cap k (by have := CAP.out; omega) W
        have SL2 : ∀ W, (Instr.slice 22 (.slice (some ⟨gx, ox, none⟩) l.length cap) (some (.int .i64 ((k : Int) + 1))) none none).run Try.prog W = .ok (.slice so (l.length - (k + 1)) (cap - (k + 1))) W := fun W => by
          have := isl_from (some ⟨gx, ox, none⟩) l.length cap (k + 1) (by omega) W
          rw [show (((k + 1 : Nat)) : Int) = (k : Int) + 1 by push_cast; rfl] at this
          rw [this]
          unfold sliced; rw [hso]
        have LK := Lib.hid (show (l.take k).length = k from by rw [List.length_take]; omega)
        have LD := Lib.hid (show (l.drop (k + 1)).length = l.length - (k + 1) from List.length_drop ..)
        have RCP := Lib.hid (rcopied w4 (l.take k) (.slice (some ⟨gx, ox, none⟩) k cap) ((H0.out.below B4.out).take k (by omega)) (by rw [LK.out]; omega))
        have WD := Lib.hid (show ∀ V, Below w4.heap.size w4 V → IRow V (l.drop (k + 1)) (.slice so (l.length - (k + 1)) (cap - (k + 1))) from fun V hV => by
          have := ((H0.out.below B4.out).below hV).drop (k + 1) (by omega)
          rw [show sliced (some ⟨gx, ox, none⟩) (k + 1) l.length cap 12 = .slice so (l.length - (k + 1)) (cap - (k + 1)) by unfold sliced; rw [hso]] at this
          exact this)
        have wk : IntKind.i64.wrap ((k : Int) + 1) = (k : Int) + 1 := by rw [IntKind.wrap_i64]; omega
        clear hso
        go_wp2_with fail
        with_reducible refine RCP.out.mono ?_
        rintro e5 w5 ⟨ov, rfl, h5, o5⟩
        have B5 := Lib.hid (below_tr B4.out h5)
        have G5 := Lib.hid (G4.out.below h5)
        have O5 := Lib.hid (show w5.ownsRow w.heap.size 52 12 ov k (i12s (l.take k)) from by
          have := own_lower0 o5 B4.out.size
          rwa [LK.out] at this)
        obtain ⟨S1, S2⟩ := (WD.out w5 h5).src
        have s1 := Lib.hid S1
        have s2 := Lib.hid S2
        clear h5 o5 S1 S2 q5 q6 q7 RCP
        go_wp2_with (at_builtin; refine wpList_append_any _ rfl _ _ 22 rfl w.heap.size 52 i0 _ 12 112 Try.underlying22 hi0 hz0 hz1 hz2 rfl (by decide) ov k (i12s (l.take k)) rfl O5.out so (l.length - (k + 1)) (cap - (k + 1)) (i12s (l.drop (k + 1))) rfl (by rw [i12s_len, LD.out]) s1.out s2.out (i12s_one _) (by unfold maxLen; omega) (by omega) B5.out.size ?_)
        intro v6 w6 hown6 hg6
        have B6 := Lib.hid (below_grown' B5.out hg6 (fun q hq => (World.ownsRow.lt O5.out q hq).1))
        have O6 := Lib.hid (show IOwn w6 w.heap.size (delL l s) v6 from by
          unfold IOwn
          rw [DL.out, i12s_app, List.length_append, LK.out, LD.out]
          exact hown6)
        have G6 := Lib.hid (show GBlk w6 w.heap.size (.slice none 0 0) 0 from (hg6.block w.heap.size G5.out.lt (fun e => by
          rcases O5.out.2 with ⟨e2, -⟩ | ⟨g, c, cur, e2, -, hg, -⟩
          · rw [e2] at e; cases e
          · rw [e2] at e
            have : w.heap.size = g := by simpa [Value.ownBlock] using e
            subst this
            have h9 := G5.out
            unfold GBlk at h9
            rw [hg] at h9
            simp only [Option.some.injEq, Obj.cells.injEq] at h9
            exact absurd h9.2.1 (by decide))).trans G5.out)
        obtain ⟨oo, om, oc, rfl⟩ := own_slice (show w6.ownsRow _ _ _ _ _ _ from O6.out)
        have f0 := G6.out.free 0
        have f1 := G6.out.free 1
        obtain ⟨c0, c1⟩ := G6.out.cells
        clear hown6 hg6 s1 s2
        go_wp2_with fail
        have GF := Lib.hid (G6.out.set (.slice oo om oc) 0)
        have OF := Lib.hid (O6.out.far (O6.out.apart G6.out) (.slice oo om oc) (.int .i64 0))
        obtain ⟨g0, g1⟩ := GF.out.cells
        exact bodyPost_ret (v := .agg #[.slice oo om oc, .int .i64 0]) (by simp [results, Try.results22, go_sem, g0, g1]) rfl ⟨_, by rw [R.out]; rfl, below_set2 B6.out (Nat.le_refl _) _ _, by rw [R.out, if_pos rfl]; exact OF.out⟩
      · have R := Lib.hid (show delE l s ver = 13 by rw [AE3.out]; rw [Bool.not_eq_true] at ho; rw [ho]; rfl)
        have ho2 : ¬ (x.own.c = 0 ∧ x.own.m = 0 ∧ x.own.p = 0) := fun h => ho (eqV_iff.2 (by
          obtain ⟨h1, h2, h3⟩ := h
          exact v3_eq h1 h2 h3))
        clear ho AE3
        go_upto_region 6 with fail
        all_goals
          go_wp2_with fail
          have RE := Lib.hid (fun W => (show Calls Try.prog 50 #[.int .i64 13] W (Made (.agg #[.slice none 0 0, .int .i64 13]) W) from RN.out W 13))
          with_reducible refine (RE.out _).mono ?_
          rintro e9 w9 ⟨rfl, h9⟩
          have B9 := Lib.hid (below_tr B4.out h9)
          have G9 := Lib.hid (G4.out.below h9)
          have f0 := G9.out.free 0
          have f1 := G9.out.free 1
          obtain ⟨c0, c1⟩ := G9.out.cells
          clear h9
          go_wp2_with fail
          have GF := Lib.hid (G9.out.set (.slice none 0 0) 13)
          obtain ⟨g0, g1⟩ := GF.out.cells
          exact bodyPost_ret (v := .agg #[.slice none 0 0, .int .i64 13]) (by simp [results, Try.results22, go_sem, g0, g1]) rfl ⟨_, by rw [R.out]; rfl, below_set2 B9.out (Nat.le_refl _) _ _, by rw [R.out]; exact IOwn_nil _ _⟩
    · have bp : 0 < (belowI l s).length := List.length_pos_iff.2 hb
      have R := Lib.hid (show delE l s ver = 13 by
        rw [AE2.out, if_pos]
        cases hbb : belowI l s with
        | nil => exact absurd hbb hb
        | cons a b => rfl)
      generalize belowI l s = bs at *
      have bp2 : (0 : Int) < (bs.length : Int) := by omega
      clear hb AE2 q5 q6 q7
      go_wp2_with fail
      have RE := Lib.hid (fun W => (show Calls Try.prog 50 #[.int .i64 13] W (Made (.agg #[.slice none 0 0, .int .i64 13]) W) from RN.out W 13))
      with_reducible refine (RE.out _).mono ?_
      rintro e9 w9 ⟨rfl, h9⟩
      have B9 := Lib.hid (below_tr B4.out h9)
      have G9 := Lib.hid (G4.out.below h9)
      have f0 := G9.out.free 0
      have f1 := G9.out.free 1
      obtain ⟨c0, c1⟩ := G9.out.cells
      clear h9
      go_wp2_with fail
      have GF := Lib.hid (G9.out.set (.slice none 0 0) 13)
      obtain ⟨g0, g1⟩ := GF.out.cells
      exact bodyPost_ret (v := .agg #[.slice none 0 0, .int .i64 13]) (by simp [results, Try.results22, go_sem, g0, g1]) rfl ⟨_, by rw [R.out]; rfl, below_set2 B9.out (Nat.le_refl _) _ _, by rw [R.out]; exact IOwn_nil _ _⟩
  · have R := Lib.hid (show delE l s ver = oldE l s ver by rw [AE.out, if_pos hE])
    generalize oldE l s ver = E at *
    have NE := hE
    have ne : ((E : Int) != 0) = true := by
      rw [bne, beq_false_of_ne (by omega)]; rfl
    have ne2 : ((E : Int) == 0) = false := beq_false_of_ne (by omega)
    clear hE AE
    go_wp2_with fail
    have RE := Lib.hid (fun W => (show Calls Try.prog 50 #[.int .i64 (E : Int)] W (Made (.agg #[.slice none 0 0, .int .i64 (E : Int)]) W) from RN.out W E))
    with_reducible refine (RE.out _).mono ?_
    rintro e9 w9 ⟨rfl, h9⟩
    have B9 := Lib.hid (below_tr B0.out h9)
    have G9 := Lib.hid (G0.out.below h9)
    have f0 := G9.out.free 0
    have f1 := G9.out.free 1
    obtain ⟨c0, c1⟩ := G9.out.cells
    clear h9
    go_wp2_with fail
    have GF := Lib.hid (G9.out.set (.slice none 0 0) (E : Int))
    obtain ⟨g0, g1⟩ := GF.out.cells
    exact bodyPost_ret (v := .agg #[.slice none 0 0, .int .i64 (E : Int)]) (by simp [results, Try.results22, go_sem, g0, g1]) rfl ⟨_, by rw [R.out], below_set2 B9.out (Nat.le_refl _) _ _, by rw [R.out]; exact by rw [if_neg NE]; exact IOwn_nil _ _⟩
end
end Go.Proofs.Ytmpakgabehplbaa
