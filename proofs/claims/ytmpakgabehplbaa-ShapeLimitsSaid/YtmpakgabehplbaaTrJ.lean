/- Live trees: the document's Create, walked. -/
import Derived.Test.YtmpakgabehplbaaTrI
import Derived.Test.YtmpakgabehplbaaVecN
namespace Go.Proofs.Ytmpakgabehplbaa
open Go.RowKit
set_option linter.unusedVariables false
set_option linter.unusedSimpArgs false
section
variable (w : World)
set_option maxHeartbeats 16000000 in
set_option maxRecDepth 100000 in
theorem rcreate (l : List I12) (lv : Value) (h : IRow w l lv) (hl : l.length ≤ 1000) (s p : ByteArray) (hs : s.size ≤ 1000000) (lim : V3) :
    Calls Try.prog 19 #[lv, .string s, .string p, .agg #[.int .i64 lim.c, .int .i64 lim.m, .int .i64 lim.p]] w (GrownI (createE l s p lim) (createL l s p lim) w) := by
  obtain ⟨i0, hi0, hz0, hz1, hz2⟩ := info_partsT info_item
  have H0 := Lib.hid h
  obtain ⟨ao, cap, rfl, hcap, hmax, hat⟩ := h
  have HAT := Lib.hid hat
  have HC := Lib.hid hcap
  clear hat hcap hmax
  have MN := Lib.hid (fun W => rmayname W s (by omega))
  have ML := Lib.hid (fun W => rmay_any W lim)
  have FS := Lib.hid (fun W (hW : Below w.heap.size w W) => rfind W l (.slice ao l.length cap) (H0.out.below hW) s)
  have FP := Lib.hid (fun W (hW : Below w.heap.size w W) => rfind W l (.slice ao l.length cap) (H0.out.below hW) p)
  have CE := Lib.hid (show createE l s p lim = if (nameB s && mayV lim) = false then 1 else if iIdx l s ≠ none then 3 else if p ≠ ⟨#[]⟩ ∧ iIdx l p = none then 2 else if 120 ≤ l.length then 4 else 0 from rfl)
  have RN := Lib.hid (fun W (E : Nat) => rno W E)
  have AL := Lib.hid (show (w.alloc (.cells #[.int .i64 lim.c, .int .i64 lim.m, .int .i64 lim.p] 24)).heap.size = w.heap.size + 1 from by show (w.heap.push _).size = _; exact Array.size_push ..)
  have B0 := Lib.hid (below_al (below_al (Below.refl w.heap.size w) (.cells #[.int .i64 lim.c, .int .i64 lim.m, .int .i64 lim.p] 24)) (.cells #[.slice none 0 0, .int .i64 0] 38))
  have C0 := Lib.hid ((CBlk.new w lim).al (.cells #[.slice none 0 0, .int .i64 0] 38))
  have G0 := Lib.hid (GBlk.new (w.alloc (.cells #[.int .i64 lim.c, .int .i64 lim.m, .int .i64 lim.p] 24)) (.slice none 0 0) 0)
  rw [AL.out] at G0
  cases hn : nameB s with
  | false =>
    simp only [hn] at MN
    have R := Lib.hid (show createE l s p lim = 1 by rw [CE.out, hn]; rfl)
    clear hn CE
    go_enter Try.func19, Try.ntmps19
    go_wp2_with (first | (go_at_call 29; with_reducible refine (MN.out _).mono ?_; rintro e w' ⟨rfl, rfl⟩))
    have RE := Lib.hid (fun W => (show Calls Try.prog 50 #[.int .i64 1] W (Made (.agg #[.slice none 0 0, .int .i64 1]) W) from RN.out W 1))
    with_reducible refine (RE.out _).mono ?_
    rintro e9 w9 ⟨rfl, h9⟩
    have B9 := Lib.hid (below_tr B0.out h9)
    have G9 := Lib.hid (G0.out.below h9)
    have f0 := G9.out.free 0
    have f1 := G9.out.free 1
    obtain ⟨c0, c1⟩ := G9.out.cells
    clear h9
    go_wp2_with fail
    have GF := Lib.hid (G9.out.set (.slice none 0 0) 1)
    obtain ⟨g0, g1⟩ := GF.out.cells
    exact bodyPost_ret (v := .agg #[.slice none 0 0, .int .i64 1]) (by simp [results, Try.results19, go_sem, g0, g1]) rfl ⟨_, by rw [R.out]; rfl, below_set2 B9.out (Nat.le_succ _) _ _, by rw [R.out]; exact IOwn_nil _ _⟩
  | true =>
    simp only [hn] at MN
    cases hm : mayV lim with
    | false =>
      simp only [hm] at ML
      have R := Lib.hid (show createE l s p lim = 1 by rw [CE.out, hn, hm]; rfl)
      clear hn hm CE
      obtain ⟨v0, v1, v2, v3⟩ := C0.out.cells
      go_enter Try.func19, Try.ntmps19
      go_wp2_with (first | (go_at_call 29; with_reducible refine (MN.out _).mono ?_; rintro e w' ⟨rfl, rfl⟩))
      with_reducible refine (ML.out _).mono ?_
      rintro e1 w1 ⟨rfl, h1⟩
      have B1 := Lib.hid (below_tr B0.out h1)
      have G1 := Lib.hid (G0.out.below h1)
      clear h1 v0 v1 v2 v3
      go_wp2_with fail
      have RE := Lib.hid (fun W => (show Calls Try.prog 50 #[.int .i64 1] W (Made (.agg #[.slice none 0 0, .int .i64 1]) W) from RN.out W 1))
      with_reducible refine (RE.out _).mono ?_
      rintro e9 w9 ⟨rfl, h9⟩
      have B9 := Lib.hid (below_tr B1.out h9)
      have G9 := Lib.hid (G1.out.below h9)
      have f0 := G9.out.free 0
      have f1 := G9.out.free 1
      obtain ⟨c0, c1⟩ := G9.out.cells
      clear h9
      go_wp2_with fail
      have GF := Lib.hid (G9.out.set (.slice none 0 0) 1)
      obtain ⟨g0, g1⟩ := GF.out.cells
      exact bodyPost_ret (v := .agg #[.slice none 0 0, .int .i64 1]) (by simp [results, Try.results19, go_sem, g0, g1]) rfl ⟨_, by rw [R.out]; rfl, below_set2 B9.out (Nat.le_succ _) _ _, by rw [R.out]; exact IOwn_nil _ _⟩
    | true =>
      simp only [hm] at ML
      have CE2 := Lib.hid (show createE l s p lim = if iIdx l s ≠ none then 3 else if p ≠ ⟨#[]⟩ ∧ iIdx l p = none then 2 else if 120 ≤ l.length then 4 else 0 by rw [CE.out, hn, hm]; rfl)
      clear hn hm CE
      obtain ⟨v0, v1, v2, v3⟩ := C0.out.cells
      go_enter Try.func19, Try.ntmps19
      go_wp2_with (first | (go_at_call 29; with_reducible refine (MN.out _).mono ?_; rintro e w' ⟨rfl, rfl⟩))
      with_reducible refine (ML.out _).mono ?_
      rintro e1 w1 ⟨rfl, h1⟩
      have B1 := Lib.hid (below_tr B0.out h1)
      have G1 := Lib.hid (G0.out.below h1)
      have C1 := Lib.hid (C0.out.below h1)
      clear h1 v0 v1 v2 v3
      go_wp2_with fail
      have FS1 := Lib.hid (FS.out w1 B1.out)
      have FP1 := Lib.hid (FP.out w1 B1.out)
      have WS := Lib.hid (show findI l s = match iIdx l s with | some k => (k : Int) | none => -1 from rfl)
      have WP := Lib.hid (show findI l p = match iIdx l p with | some k => (k : Int) | none => -1 from rfl)
      cases hi : iIdx l s with
      | some j =>
        have E := Lib.hid (show findI l s = (j : Int) by rw [WS.out, hi])
        have R := Lib.hid (show createE l s p lim = 3 by rw [CE2.out, hi]; rfl)
        simp only [E.out] at FS1
        have jn : (0 : Int) ≤ (j : Int) := by omega
        clear hi WS
        with_reducible refine FS1.out.mono ?_
        rintro e2 w2 ⟨rfl, rfl⟩
        go_wp2_with fail
        have RE := Lib.hid (fun W => (show Calls Try.prog 50 #[.int .i64 3] W (Made (.agg #[.slice none 0 0, .int .i64 3]) W) from RN.out W 3))
        with_reducible refine (RE.out _).mono ?_
        rintro e9 w9 ⟨rfl, h9⟩
        have B9 := Lib.hid (below_tr B1.out h9)
        have G9 := Lib.hid (G1.out.below h9)
        have f0 := G9.out.free 0
        have f1 := G9.out.free 1
        obtain ⟨c0, c1⟩ := G9.out.cells
        clear h9
        go_wp2_with fail
        have GF := Lib.hid (G9.out.set (.slice none 0 0) 3)
        obtain ⟨g0, g1⟩ := GF.out.cells
        exact bodyPost_ret (v := .agg #[.slice none 0 0, .int .i64 3]) (by simp [results, Try.results19, go_sem, g0, g1]) rfl ⟨_, by rw [R.out]; rfl, below_set2 B9.out (Nat.le_succ _) _ _, by rw [R.out]; exact IOwn_nil _ _⟩
      | none =>
        have E := Lib.hid (show findI l s = -1 by rw [WS.out, hi])
        have CE3 := Lib.hid (show createE l s p lim = if p ≠ ⟨#[]⟩ ∧ iIdx l p = none then 2 else if 120 ≤ l.length then 4 else 0 by rw [CE2.out, hi]; rfl)
        simp only [E.out] at FS1
        clear hi WS CE2
        with_reducible refine FS1.out.mono ?_
        rintro e2 w2 ⟨rfl, rfl⟩
        have ep := tstr_empty p
        by_cases hp : p = ⟨#[]⟩
        · rw [decide_eq_true hp] at ep
          have HP0 := Lib.hid hp
          clear hp
          have ep' : p.toList = [] := by simpa using ep
          have CE4 := Lib.hid (show createE l s p lim = if 120 ≤ l.length then 4 else 0 by rw [CE3.out, if_neg (fun h => h.1 HP0.out)])
          by_cases h120 : 120 ≤ l.length
          · have R := Lib.hid (show createE l s p lim = 4 by rw [CE4.out, if_pos h120])
            go_wp2_with fail
            have RE := Lib.hid (fun W => (show Calls Try.prog 50 #[.int .i64 4] W (Made (.agg #[.slice none 0 0, .int .i64 4]) W) from RN.out W 4))
            with_reducible refine (RE.out _).mono ?_
            rintro e9 w9 ⟨rfl, h9⟩
            have B9 := Lib.hid (below_tr B1.out h9)
            have G9 := Lib.hid (G1.out.below h9)
            have f0 := G9.out.free 0
            have f1 := G9.out.free 1
            obtain ⟨c0, c1⟩ := G9.out.cells
            clear h9
            go_wp2_with fail
            have GF := Lib.hid (G9.out.set (.slice none 0 0) 4)
            obtain ⟨g0, g1⟩ := GF.out.cells
            exact bodyPost_ret (v := .agg #[.slice none 0 0, .int .i64 4]) (by simp [results, Try.results19, go_sem, g0, g1]) rfl ⟨_, by rw [R.out]; rfl, below_set2 B9.out (Nat.le_succ _) _ _, by rw [R.out]; exact IOwn_nil _ _⟩
          · have R := Lib.hid (show createE l s p lim = 0 by rw [CE4.out, if_neg h120])
            go_wp2_with fail
            go_loopg [9] l.length (fun m kv wr => ∃ k : Nat, kv = .int .i64 k ∧ l.length - k ≤ m ∧ k ≤ l.length ∧ w1 = wr ∧ Hid (∀ j y, j < k → l[j]? = some y → ltS y.name s = true))
            case atStart => exact ⟨0, rfl, Nat.le_refl _, Nat.zero_le _, rfl, Lib.hid (fun j y hj => by omega)⟩
            case round =>
              obtain ⟨k, rfl, hm, hk, rfl, HP⟩ := hrel
              have HM := Lib.hid hm
              clear hm
              by_cases hlt : k < l.length
              · obtain ⟨u, hu⟩ : ∃ u, l[k]? = some u := ⟨_, List.getElem?_eq_getElem hlt⟩
                have HU := Lib.hid hu
                obtain ⟨g, o, rfl, hcu⟩ := HAT.out k u hu
                have n0 := hold B1.out hcu.c0
                have x0 : (0 : Int) ≤ (k : Int) := by omega
                have x1 : (k : Int) < (l.length : Int) := by omega
                clear hu hcu
                cases hls : Op.bytesLess u.name.toList s.toList with
                | true =>
                  have NX := Lib.hid (show ∀ j y, j < k + 1 → l[j]? = some y → ltS y.name s = true from fun j y hj hy => by
                    by_cases e : j = k
                    · subst e
                      obtain rfl : u = y := Option.some.inj (HU.out.symm.trans hy)
                      exact hls
                    · exact HP.out j y (by omega) hy)
                  go_wp2_with fail
                  go_roundg (l.length - (k + 1))
                  case rel => exact ⟨k + 1, by go_num, Nat.le_refl _, hlt, rfl, NX⟩
                  case measure => have := HM.out; omega
                | false =>
                  have EX := Lib.hid (show ∀ y, l[k]? = some y → ltS y.name s = false from fun y hy => by
                    obtain rfl : u = y := Option.some.inj (HU.out.symm.trans hy)
                    exact hls)
                  have hkc : k ≤ cap := by have := HC.out; omega
                  have SL1 := isl_take (some ⟨g, o, none⟩) l.length cap k hkc
                  obtain ⟨so, hso⟩ : ∃ so, so = if cap = k then ((some ⟨g, o, none⟩) : Option Addr) else ((some ⟨g, o, none⟩) : Option Addr).map (·.add (k * 12)) := ⟨_, rfl⟩
                  have SL2 : ∀ W, (Instr.slice 22 (.slice (some ⟨g, o, none⟩) l.length cap) (some (.int .i64 (k : Int))) none none).run Try.prog W = .ok (.slice so (l.length - k) (cap - k)) W := fun W => by rw [isl_from (some ⟨g, o, none⟩) l.length cap k hk W, hso]; rfl
                  have WD := Lib.hid (show IRow w (l.drop k) (.slice so (l.length - k) (cap - k)) by rw [hso]; exact H0.out.drop k hk)
                  have RC := Lib.hid (rcopied w1 (l.take k) (.slice (some ⟨g, o, none⟩) k cap) ((H0.out.below B1.out).take k hk) (by rw [List.length_take]; omega))
                  have LK := Lib.hid (show (l.take k).length = k by rw [List.length_take]; omega)
                  have LD := Lib.hid (show (l.drop k).length = l.length - k from List.length_drop ..)
                  obtain ⟨T1, T2⟩ := whileI (P := fun x => ltS x.name s) HP.out EX.out
                  have TN := Lib.hid (show createL l s p lim = l.take k ++ newI s p lim :: l.drop k by unfold createL; rw [T1, T2])
                  clear T1 T2 hso
                  go_wp2_with fail
                  with_reducible refine RC.out.mono ?_
                  rintro e4 w4 ⟨v4, rfl, h4, o4⟩
                  have B4 := Lib.hid h4
                  have O4 := Lib.hid (show w4.ownsRow w1.heap.size 52 12 v4 k (i12s (l.take k)) from by have h := o4; unfold IOwn at h; rwa [LK.out] at h)
                  obtain ⟨q0, q1, q2, q3⟩ := (C1.out.below B4.out).cells
                  have BN := Lib.hid (below_al (Below.refl w4.heap.size w4) (.cells #[.string s, .string p, .int .i64 lim.c, .int .i64 lim.m, .int .i64 lim.p, .int .i64 0, .int .i64 0, .int .i64 0, .int .i64 0, .int .i64 0, .int .i64 0, .int .i64 1] 52))
                  have NW := Lib.hid (news_new w4 #[.string s, .string p, .int .i64 lim.c, .int .i64 lim.m, .int .i64 lim.p, .int .i64 0, .int .i64 0, .int .i64 0, .int .i64 0, .int .i64 0, .int .i64 0, .int .i64 1] 52)
                  have h9 := O4.out.alloc (.cells #[.string s, .string p, .int .i64 lim.c, .int .i64 lim.m, .int .i64 lim.p, .int .i64 0, .int .i64 0, .int .i64 0, .int .i64 0, .int .i64 0, .int .i64 0, .int .i64 1] 52)
                  have O4a := Lib.hid h9
                  have S4z := Lib.hid B4.out.size
                  clear h4 o4 h9
                  go_wp2_with (at_builtin; refine wpList_append_any _ rfl _ _ 22 rfl w1.heap.size 52 i0 _ 12 112 Try.underlying22 hi0 hz0 hz1 hz2 rfl (by decide) v4 k (i12s (l.take k)) rfl O4a.out (some ⟨w4.heap.size, 0, none⟩) 1 1 (newI s p lim).cells rfl (by rfl) (fun h => by cases h) (fun ad had j u hj => by cases had; exact NW.out j u hj) (i12c_one _) (by unfold maxLen; omega) (by omega) (by have := S4z.out; simp; omega) ?_)
                  intro v5 w5 hown5 hg5
                  have B5 := Lib.hid (below_grown' (below_tr B4.out BN.out) hg5 (fun q hq => by have h := (World.ownsRow.lt O4a.out q hq).1; omega))
                  have O5 := Lib.hid (show w5.ownsRow w1.heap.size 52 12 v5 (k + 1) (i12s (l.take k) ++ (newI s p lim).cells) from hown5)
                  obtain ⟨S1, S2⟩ := ((WD.out.below B1.out).below B5.out).src
                  have s1 := Lib.hid S1
                  have s2 := Lib.hid S2
                  have S5z := Lib.hid B5.out.size
                  clear hown5 hg5 S1 S2 q0 q1 q2 q3 O4 O4a BN NW
                  go_wp2_with (at_builtin; refine wpList_append_any _ rfl _ _ 22 rfl w1.heap.size 52 i0 _ 12 112 Try.underlying22 hi0 hz0 hz1 hz2 rfl (by decide) v5 (k + 1) (i12s (l.take k) ++ (newI s p lim).cells) rfl O5.out so (l.length - k) (cap - k) (i12s (l.drop k)) rfl (by rw [i12s_len, LD.out]) s1.out s2.out (i12s_one _) (by unfold maxLen; omega) (by omega) S5z.out ?_)
                  intro v6 w6 hown6 hg6
                  have B6 := Lib.hid (below_grown' B5.out hg6 (fun q hq => by have h := (World.ownsRow.lt O5.out q hq).1; omega))
                  have O6 := Lib.hid (show IOwn w6 w.heap.size (createL l s p lim) v6 from by
                    unfold IOwn
                    have e1 : (createL l s p lim).length = k + 1 + (l.length - k) := by rw [TN.out, List.length_append, List.length_cons, LK.out, LD.out]; omega
                    have e2 : i12s (createL l s p lim) = i12s (l.take k) ++ (newI s p lim).cells ++ i12s (l.drop k) := by rw [TN.out, i12s_app]; simp [i12s]
                    rw [e1, e2]
                    first | exact own_lower hown6 B1.out.size | (rw [List.append_assoc] at *; exact own_lower hown6 B1.out.size) | (rw [List.append_assoc]; exact own_lower hown6 B1.out.size))
                  obtain ⟨oo, om, oc, rfl⟩ := own_slice (show w6.ownsRow _ _ _ _ _ _ from O6.out)
                  have G6 := Lib.hid (G1.out.below B6.out)
                  have f0 := G6.out.free 0
                  have f1 := G6.out.free 1
                  obtain ⟨c0, c1⟩ := G6.out.cells
                  clear hown6 hg6 s1 s2
                  go_wp2_with fail
                  have GF := Lib.hid (G6.out.set (.slice oo om oc) 0)
                  obtain ⟨g0, g1⟩ := GF.out.cells
                  exact bodyPost_ret (v := .agg #[.slice oo om oc, .int .i64 0]) (by simp [results, Try.results19, go_sem, g0, g1]) rfl ⟨.slice oo om oc, by rw [R.out]; rfl, below_set2 (below_tr B1.out B6.out) (Nat.le_succ _) _ _, by rw [R.out]; exact O6.out.far (O6.out.apart G6.out) _ _⟩
              · have EX := Lib.hid (show ∀ y, l[k]? = some y → ltS y.name s = false from fun y hy => by rw [List.getElem?_eq_none (by omega)] at hy; cases hy)
                have hge : ¬ (k : Int) < (l.length : Int) := by omega
                have hkc : k ≤ cap := by have := HC.out; omega
                have SL1 := isl_take ao l.length cap k hkc
                obtain ⟨so, hso⟩ : ∃ so, so = if cap = k then (ao : Option Addr) else (ao : Option Addr).map (·.add (k * 12)) := ⟨_, rfl⟩
                have SL2 : ∀ W, (Instr.slice 22 (.slice ao l.length cap) (some (.int .i64 (k : Int))) none none).run Try.prog W = .ok (.slice so (l.length - k) (cap - k)) W := fun W => by rw [isl_from ao l.length cap k hk W, hso]; rfl
                have WD := Lib.hid (show IRow w (l.drop k) (.slice so (l.length - k) (cap - k)) by rw [hso]; exact H0.out.drop k hk)
                have RC := Lib.hid (rcopied w1 (l.take k) (.slice ao k cap) ((H0.out.below B1.out).take k hk) (by rw [List.length_take]; omega))
                have LK := Lib.hid (show (l.take k).length = k by rw [List.length_take]; omega)
                have LD := Lib.hid (show (l.drop k).length = l.length - k from List.length_drop ..)
                obtain ⟨T1, T2⟩ := whileI (P := fun x => ltS x.name s) HP.out EX.out
                have TN := Lib.hid (show createL l s p lim = l.take k ++ newI s p lim :: l.drop k by unfold createL; rw [T1, T2])
                clear T1 T2 hso
                go_wp2_with fail
                with_reducible refine RC.out.mono ?_
                rintro e4 w4 ⟨v4, rfl, h4, o4⟩
                have B4 := Lib.hid h4
                have O4 := Lib.hid (show w4.ownsRow w1.heap.size 52 12 v4 k (i12s (l.take k)) from by have h := o4; unfold IOwn at h; rwa [LK.out] at h)
                obtain ⟨q0, q1, q2, q3⟩ := (C1.out.below B4.out).cells
                have BN := Lib.hid (below_al (Below.refl w4.heap.size w4) (.cells #[.string s, .string p, .int .i64 lim.c, .int .i64 lim.m, .int .i64 lim.p, .int .i64 0, .int .i64 0, .int .i64 0, .int .i64 0, .int .i64 0, .int .i64 0, .int .i64 1] 52))
                have NW := Lib.hid (news_new w4 #[.string s, .string p, .int .i64 lim.c, .int .i64 lim.m, .int .i64 lim.p, .int .i64 0, .int .i64 0, .int .i64 0, .int .i64 0, .int .i64 0, .int .i64 0, .int .i64 1] 52)
                have h9 := O4.out.alloc (.cells #[.string s, .string p, .int .i64 lim.c, .int .i64 lim.m, .int .i64 lim.p, .int .i64 0, .int .i64 0, .int .i64 0, .int .i64 0, .int .i64 0, .int .i64 0, .int .i64 1] 52)
                have O4a := Lib.hid h9
                have S4z := Lib.hid B4.out.size
                clear h4 o4 h9
                go_wp2_with (at_builtin; refine wpList_append_any _ rfl _ _ 22 rfl w1.heap.size 52 i0 _ 12 112 Try.underlying22 hi0 hz0 hz1 hz2 rfl (by decide) v4 k (i12s (l.take k)) rfl O4a.out (some ⟨w4.heap.size, 0, none⟩) 1 1 (newI s p lim).cells rfl (by rfl) (fun h => by cases h) (fun ad had j u hj => by cases had; exact NW.out j u hj) (i12c_one _) (by unfold maxLen; omega) (by omega) (by have := S4z.out; simp; omega) ?_)
                intro v5 w5 hown5 hg5
                have B5 := Lib.hid (below_grown' (below_tr B4.out BN.out) hg5 (fun q hq => by have h := (World.ownsRow.lt O4a.out q hq).1; omega))
                have O5 := Lib.hid (show w5.ownsRow w1.heap.size 52 12 v5 (k + 1) (i12s (l.take k) ++ (newI s p lim).cells) from hown5)
                obtain ⟨S1, S2⟩ := ((WD.out.below B1.out).below B5.out).src
                have s1 := Lib.hid S1
                have s2 := Lib.hid S2
                have S5z := Lib.hid B5.out.size
                clear hown5 hg5 S1 S2 q0 q1 q2 q3 O4 O4a BN NW
                go_wp2_with (at_builtin; refine wpList_append_any _ rfl _ _ 22 rfl w1.heap.size 52 i0 _ 12 112 Try.underlying22 hi0 hz0 hz1 hz2 rfl (by decide) v5 (k + 1) (i12s (l.take k) ++ (newI s p lim).cells) rfl O5.out so (l.length - k) (cap - k) (i12s (l.drop k)) rfl (by rw [i12s_len, LD.out]) s1.out s2.out (i12s_one _) (by unfold maxLen; omega) (by omega) S5z.out ?_)
                intro v6 w6 hown6 hg6
                have B6 := Lib.hid (below_grown' B5.out hg6 (fun q hq => by have h := (World.ownsRow.lt O5.out q hq).1; omega))
                have O6 := Lib.hid (show IOwn w6 w.heap.size (createL l s p lim) v6 from by
                  unfold IOwn
                  have e1 : (createL l s p lim).length = k + 1 + (l.length - k) := by rw [TN.out, List.length_append, List.length_cons, LK.out, LD.out]; omega
                  have e2 : i12s (createL l s p lim) = i12s (l.take k) ++ (newI s p lim).cells ++ i12s (l.drop k) := by rw [TN.out, i12s_app]; simp [i12s]
                  rw [e1, e2]
                  first | exact own_lower hown6 B1.out.size | (rw [List.append_assoc] at *; exact own_lower hown6 B1.out.size) | (rw [List.append_assoc]; exact own_lower hown6 B1.out.size))
                obtain ⟨oo, om, oc, rfl⟩ := own_slice (show w6.ownsRow _ _ _ _ _ _ from O6.out)
                have G6 := Lib.hid (G1.out.below B6.out)
                have f0 := G6.out.free 0
                have f1 := G6.out.free 1
                obtain ⟨c0, c1⟩ := G6.out.cells
                clear hown6 hg6 s1 s2
                go_wp2_with fail
                have GF := Lib.hid (G6.out.set (.slice oo om oc) 0)
                obtain ⟨g0, g1⟩ := GF.out.cells
                exact bodyPost_ret (v := .agg #[.slice oo om oc, .int .i64 0]) (by simp [results, Try.results19, go_sem, g0, g1]) rfl ⟨.slice oo om oc, by rw [R.out]; rfl, below_set2 (below_tr B1.out B6.out) (Nat.le_succ _) _ _, by rw [R.out]; exact O6.out.far (O6.out.apart G6.out) _ _⟩
        · rw [decide_eq_false hp] at ep
          have ep' : ¬ p.toList = [] := by simpa using ep
          cases hi2 : iIdx l p with
          | none =>
            have E2 := Lib.hid (show findI l p = -1 by rw [WP.out, hi2])
            have R := Lib.hid (show createE l s p lim = 2 by rw [CE3.out, if_pos ⟨hp, hi2⟩])
            simp only [E2.out] at FP1
            clear hi2 WP
            go_wp2_with fail
            with_reducible refine FP1.out.mono ?_
            rintro e3 w3 ⟨rfl, rfl⟩
            go_wp2_with fail
            have RE := Lib.hid (fun W => (show Calls Try.prog 50 #[.int .i64 2] W (Made (.agg #[.slice none 0 0, .int .i64 2]) W) from RN.out W 2))
            with_reducible refine (RE.out _).mono ?_
            rintro e9 w9 ⟨rfl, h9⟩
            have B9 := Lib.hid (below_tr B1.out h9)
            have G9 := Lib.hid (G1.out.below h9)
            have f0 := G9.out.free 0
            have f1 := G9.out.free 1
            obtain ⟨c0, c1⟩ := G9.out.cells
            clear h9
            go_wp2_with fail
            have GF := Lib.hid (G9.out.set (.slice none 0 0) 2)
            obtain ⟨g0, g1⟩ := GF.out.cells
            exact bodyPost_ret (v := .agg #[.slice none 0 0, .int .i64 2]) (by simp [results, Try.results19, go_sem, g0, g1]) rfl ⟨_, by rw [R.out]; rfl, below_set2 B9.out (Nat.le_succ _) _ _, by rw [R.out]; exact IOwn_nil _ _⟩
          | some j =>
            have E2 := Lib.hid (show findI l p = (j : Int) by rw [WP.out, hi2])
            have CE4 := Lib.hid (show createE l s p lim = if 120 ≤ l.length then 4 else 0 by rw [CE3.out, if_neg (fun h => by rw [hi2] at h; cases h.2)])
            simp only [E2.out] at FP1
            have jn : ¬ (j : Int) < 0 := by omega
            clear hi2 WP
            go_wp2_with fail
            with_reducible refine FP1.out.mono ?_
            rintro e3 w3 ⟨rfl, rfl⟩
            by_cases h120 : 120 ≤ l.length
            · have R := Lib.hid (show createE l s p lim = 4 by rw [CE4.out, if_pos h120])
              go_wp2_with fail
              have RE := Lib.hid (fun W => (show Calls Try.prog 50 #[.int .i64 4] W (Made (.agg #[.slice none 0 0, .int .i64 4]) W) from RN.out W 4))
              with_reducible refine (RE.out _).mono ?_
              rintro e9 w9 ⟨rfl, h9⟩
              have B9 := Lib.hid (below_tr B1.out h9)
              have G9 := Lib.hid (G1.out.below h9)
              have f0 := G9.out.free 0
              have f1 := G9.out.free 1
              obtain ⟨c0, c1⟩ := G9.out.cells
              clear h9
              go_wp2_with fail
              have GF := Lib.hid (G9.out.set (.slice none 0 0) 4)
              obtain ⟨g0, g1⟩ := GF.out.cells
              exact bodyPost_ret (v := .agg #[.slice none 0 0, .int .i64 4]) (by simp [results, Try.results19, go_sem, g0, g1]) rfl ⟨_, by rw [R.out]; rfl, below_set2 B9.out (Nat.le_succ _) _ _, by rw [R.out]; exact IOwn_nil _ _⟩
            · have R := Lib.hid (show createE l s p lim = 0 by rw [CE4.out, if_neg h120])
              go_wp2_with fail
              go_loopg [9] l.length (fun m kv wr => ∃ k : Nat, kv = .int .i64 k ∧ l.length - k ≤ m ∧ k ≤ l.length ∧ w1 = wr ∧ Hid (∀ j y, j < k → l[j]? = some y → ltS y.name s = true))
              case atStart => exact ⟨0, rfl, Nat.le_refl _, Nat.zero_le _, rfl, Lib.hid (fun j y hj => by omega)⟩
              case round =>
                obtain ⟨k, rfl, hm, hk, rfl, HP⟩ := hrel
                have HM := Lib.hid hm
                clear hm
                by_cases hlt : k < l.length
                · obtain ⟨u, hu⟩ : ∃ u, l[k]? = some u := ⟨_, List.getElem?_eq_getElem hlt⟩
                  have HU := Lib.hid hu
                  obtain ⟨g, o, rfl, hcu⟩ := HAT.out k u hu
                  have n0 := hold B1.out hcu.c0
                  have x0 : (0 : Int) ≤ (k : Int) := by omega
                  have x1 : (k : Int) < (l.length : Int) := by omega
                  clear hu hcu
                  cases hls : Op.bytesLess u.name.toList s.toList with
                  | true =>
                    have NX := Lib.hid (show ∀ j y, j < k + 1 → l[j]? = some y → ltS y.name s = true from fun j y hj hy => by
                      by_cases e : j = k
                      · subst e
                        obtain rfl : u = y := Option.some.inj (HU.out.symm.trans hy)
                        exact hls
                      · exact HP.out j y (by omega) hy)
                    go_wp2_with fail
                    go_roundg (l.length - (k + 1))
                    case rel => exact ⟨k + 1, by go_num, Nat.le_refl _, hlt, rfl, NX⟩
                    case measure => have := HM.out; omega
                  | false =>
                    have EX := Lib.hid (show ∀ y, l[k]? = some y → ltS y.name s = false from fun y hy => by
                      obtain rfl : u = y := Option.some.inj (HU.out.symm.trans hy)
                      exact hls)
                    have hkc : k ≤ cap := by have := HC.out; omega
                    have SL1 := isl_take (some ⟨g, o, none⟩) l.length cap k hkc
                    obtain ⟨so, hso⟩ : ∃ so, so = if cap = k then ((some ⟨g, o, none⟩) : Option Addr) else ((some ⟨g, o, none⟩) : Option Addr).map (·.add (k * 12)) := ⟨_, rfl⟩
                    have SL2 : ∀ W, (Instr.slice 22 (.slice (some ⟨g, o, none⟩) l.length cap) (some (.int .i64 (k : Int))) none none).run Try.prog W = .ok (.slice so (l.length - k) (cap - k)) W := fun W => by rw [isl_from (some ⟨g, o, none⟩) l.length cap k hk W, hso]; rfl
                    have WD := Lib.hid (show IRow w (l.drop k) (.slice so (l.length - k) (cap - k)) by rw [hso]; exact H0.out.drop k hk)
                    have RC := Lib.hid (rcopied w1 (l.take k) (.slice (some ⟨g, o, none⟩) k cap) ((H0.out.below B1.out).take k hk) (by rw [List.length_take]; omega))
                    have LK := Lib.hid (show (l.take k).length = k by rw [List.length_take]; omega)
                    have LD := Lib.hid (show (l.drop k).length = l.length - k from List.length_drop ..)
                    obtain ⟨T1, T2⟩ := whileI (P := fun x => ltS x.name s) HP.out EX.out
                    have TN := Lib.hid (show createL l s p lim = l.take k ++ newI s p lim :: l.drop k by unfold createL; rw [T1, T2])
                    clear T1 T2 hso
                    go_wp2_with fail
                    with_reducible refine RC.out.mono ?_
                    rintro e4 w4 ⟨v4, rfl, h4, o4⟩
                    have B4 := Lib.hid h4
                    have O4 := Lib.hid (show w4.ownsRow w1.heap.size 52 12 v4 k (i12s (l.take k)) from by have h := o4; unfold IOwn at h; rwa [LK.out] at h)
                    obtain ⟨q0, q1, q2, q3⟩ := (C1.out.below B4.out).cells
                    have BN := Lib.hid (below_al (Below.refl w4.heap.size w4) (.cells #[.string s, .string p, .int .i64 lim.c, .int .i64 lim.m, .int .i64 lim.p, .int .i64 0, .int .i64 0, .int .i64 0, .int .i64 0, .int .i64 0, .int .i64 0, .int .i64 1] 52))
                    have NW := Lib.hid (news_new w4 #[.string s, .string p, .int .i64 lim.c, .int .i64 lim.m, .int .i64 lim.p, .int .i64 0, .int .i64 0, .int .i64 0, .int .i64 0, .int .i64 0, .int .i64 0, .int .i64 1] 52)
                    have h9 := O4.out.alloc (.cells #[.string s, .string p, .int .i64 lim.c, .int .i64 lim.m, .int .i64 lim.p, .int .i64 0, .int .i64 0, .int .i64 0, .int .i64 0, .int .i64 0, .int .i64 0, .int .i64 1] 52)
                    have O4a := Lib.hid h9
                    have S4z := Lib.hid B4.out.size
                    clear h4 o4 h9
                    go_wp2_with (at_builtin; refine wpList_append_any _ rfl _ _ 22 rfl w1.heap.size 52 i0 _ 12 112 Try.underlying22 hi0 hz0 hz1 hz2 rfl (by decide) v4 k (i12s (l.take k)) rfl O4a.out (some ⟨w4.heap.size, 0, none⟩) 1 1 (newI s p lim).cells rfl (by rfl) (fun h => by cases h) (fun ad had j u hj => by cases had; exact NW.out j u hj) (i12c_one _) (by unfold maxLen; omega) (by omega) (by have := S4z.out; simp; omega) ?_)
                    intro v5 w5 hown5 hg5
                    have B5 := Lib.hid (below_grown' (below_tr B4.out BN.out) hg5 (fun q hq => by have h := (World.ownsRow.lt O4a.out q hq).1; omega))
                    have O5 := Lib.hid (show w5.ownsRow w1.heap.size 52 12 v5 (k + 1) (i12s (l.take k) ++ (newI s p lim).cells) from hown5)
                    obtain ⟨S1, S2⟩ := ((WD.out.below B1.out).below B5.out).src
                    have s1 := Lib.hid S1
                    have s2 := Lib.hid S2
                    have S5z := Lib.hid B5.out.size
                    clear hown5 hg5 S1 S2 q0 q1 q2 q3 O4 O4a BN NW
                    go_wp2_with (at_builtin; refine wpList_append_any _ rfl _ _ 22 rfl w1.heap.size 52 i0 _ 12 112 Try.underlying22 hi0 hz0 hz1 hz2 rfl (by decide) v5 (k + 1) (i12s (l.take k) ++ (newI s p lim).cells) rfl O5.out so (l.length - k) (cap - k) (i12s (l.drop k)) rfl (by rw [i12s_len, LD.out]) s1.out s2.out (i12s_one _) (by unfold maxLen; omega) (by omega) S5z.out ?_)
                    intro v6 w6 hown6 hg6
                    have B6 := Lib.hid (below_grown' B5.out hg6 (fun q hq => by have h := (World.ownsRow.lt O5.out q hq).1; omega))
                    have O6 := Lib.hid (show IOwn w6 w.heap.size (createL l s p lim) v6 from by
                      unfold IOwn
                      have e1 : (createL l s p lim).length = k + 1 + (l.length - k) := by rw [TN.out, List.length_append, List.length_cons, LK.out, LD.out]; omega
                      have e2 : i12s (createL l s p lim) = i12s (l.take k) ++ (newI s p lim).cells ++ i12s (l.drop k) := by rw [TN.out, i12s_app]; simp [i12s]
                      rw [e1, e2]
                      first | exact own_lower hown6 B1.out.size | (rw [List.append_assoc] at *; exact own_lower hown6 B1.out.size) | (rw [List.append_assoc]; exact own_lower hown6 B1.out.size))
                    obtain ⟨oo, om, oc, rfl⟩ := own_slice (show w6.ownsRow _ _ _ _ _ _ from O6.out)
                    have G6 := Lib.hid (G1.out.below B6.out)
                    have f0 := G6.out.free 0
                    have f1 := G6.out.free 1
                    obtain ⟨c0, c1⟩ := G6.out.cells
                    clear hown6 hg6 s1 s2
                    go_wp2_with fail
                    have GF := Lib.hid (G6.out.set (.slice oo om oc) 0)
                    obtain ⟨g0, g1⟩ := GF.out.cells
                    exact bodyPost_ret (v := .agg #[.slice oo om oc, .int .i64 0]) (by simp [results, Try.results19, go_sem, g0, g1]) rfl ⟨.slice oo om oc, by rw [R.out]; rfl, below_set2 (below_tr B1.out B6.out) (Nat.le_succ _) _ _, by rw [R.out]; exact O6.out.far (O6.out.apart G6.out) _ _⟩
                · have EX := Lib.hid (show ∀ y, l[k]? = some y → ltS y.name s = false from fun y hy => by rw [List.getElem?_eq_none (by omega)] at hy; cases hy)
                  have hge : ¬ (k : Int) < (l.length : Int) := by omega
                  have hkc : k ≤ cap := by have := HC.out; omega
                  have SL1 := isl_take ao l.length cap k hkc
                  obtain ⟨so, hso⟩ : ∃ so, so = if cap = k then (ao : Option Addr) else (ao : Option Addr).map (·.add (k * 12)) := ⟨_, rfl⟩
                  have SL2 : ∀ W, (Instr.slice 22 (.slice ao l.length cap) (some (.int .i64 (k : Int))) none none).run Try.prog W = .ok (.slice so (l.length - k) (cap - k)) W := fun W => by rw [isl_from ao l.length cap k hk W, hso]; rfl
                  have WD := Lib.hid (show IRow w (l.drop k) (.slice so (l.length - k) (cap - k)) by rw [hso]; exact H0.out.drop k hk)
                  have RC := Lib.hid (rcopied w1 (l.take k) (.slice ao k cap) ((H0.out.below B1.out).take k hk) (by rw [List.length_take]; omega))
                  have LK := Lib.hid (show (l.take k).length = k by rw [List.length_take]; omega)
                  have LD := Lib.hid (show (l.drop k).length = l.length - k from List.length_drop ..)
                  obtain ⟨T1, T2⟩ := whileI (P := fun x => ltS x.name s) HP.out EX.out
                  have TN := Lib.hid (show createL l s p lim = l.take k ++ newI s p lim :: l.drop k by unfold createL; rw [T1, T2])
                  clear T1 T2 hso
                  go_wp2_with fail
                  with_reducible refine RC.out.mono ?_
                  rintro e4 w4 ⟨v4, rfl, h4, o4⟩
                  have B4 := Lib.hid h4
                  have O4 := Lib.hid (show w4.ownsRow w1.heap.size 52 12 v4 k (i12s (l.take k)) from by have h := o4; unfold IOwn at h; rwa [LK.out] at h)
                  obtain ⟨q0, q1, q2, q3⟩ := (C1.out.below B4.out).cells
                  have BN := Lib.hid (below_al (Below.refl w4.heap.size w4) (.cells #[.string s, .string p, .int .i64 lim.c, .int .i64 lim.m, .int .i64 lim.p, .int .i64 0, .int .i64 0, .int .i64 0, .int .i64 0, .int .i64 0, .int .i64 0, .int .i64 1] 52))
                  have NW := Lib.hid (news_new w4 #[.string s, .string p, .int .i64 lim.c, .int .i64 lim.m, .int .i64 lim.p, .int .i64 0, .int .i64 0, .int .i64 0, .int .i64 0, .int .i64 0, .int .i64 0, .int .i64 1] 52)
                  have h9 := O4.out.alloc (.cells #[.string s, .string p, .int .i64 lim.c, .int .i64 lim.m, .int .i64 lim.p, .int .i64 0, .int .i64 0, .int .i64 0, .int .i64 0, .int .i64 0, .int .i64 0, .int .i64 1] 52)
                  have O4a := Lib.hid h9
                  have S4z := Lib.hid B4.out.size
                  clear h4 o4 h9
                  go_wp2_with (at_builtin; refine wpList_append_any _ rfl _ _ 22 rfl w1.heap.size 52 i0 _ 12 112 Try.underlying22 hi0 hz0 hz1 hz2 rfl (by decide) v4 k (i12s (l.take k)) rfl O4a.out (some ⟨w4.heap.size, 0, none⟩) 1 1 (newI s p lim).cells rfl (by rfl) (fun h => by cases h) (fun ad had j u hj => by cases had; exact NW.out j u hj) (i12c_one _) (by unfold maxLen; omega) (by omega) (by have := S4z.out; simp; omega) ?_)
                  intro v5 w5 hown5 hg5
                  have B5 := Lib.hid (below_grown' (below_tr B4.out BN.out) hg5 (fun q hq => by have h := (World.ownsRow.lt O4a.out q hq).1; omega))
                  have O5 := Lib.hid (show w5.ownsRow w1.heap.size 52 12 v5 (k + 1) (i12s (l.take k) ++ (newI s p lim).cells) from hown5)
                  obtain ⟨S1, S2⟩ := ((WD.out.below B1.out).below B5.out).src
                  have s1 := Lib.hid S1
                  have s2 := Lib.hid S2
                  have S5z := Lib.hid B5.out.size
                  clear hown5 hg5 S1 S2 q0 q1 q2 q3 O4 O4a BN NW
                  go_wp2_with (at_builtin; refine wpList_append_any _ rfl _ _ 22 rfl w1.heap.size 52 i0 _ 12 112 Try.underlying22 hi0 hz0 hz1 hz2 rfl (by decide) v5 (k + 1) (i12s (l.take k) ++ (newI s p lim).cells) rfl O5.out so (l.length - k) (cap - k) (i12s (l.drop k)) rfl (by rw [i12s_len, LD.out]) s1.out s2.out (i12s_one _) (by unfold maxLen; omega) (by omega) S5z.out ?_)
                  intro v6 w6 hown6 hg6
                  have B6 := Lib.hid (below_grown' B5.out hg6 (fun q hq => by have h := (World.ownsRow.lt O5.out q hq).1; omega))
                  have O6 := Lib.hid (show IOwn w6 w.heap.size (createL l s p lim) v6 from by
                    unfold IOwn
                    have e1 : (createL l s p lim).length = k + 1 + (l.length - k) := by rw [TN.out, List.length_append, List.length_cons, LK.out, LD.out]; omega
                    have e2 : i12s (createL l s p lim) = i12s (l.take k) ++ (newI s p lim).cells ++ i12s (l.drop k) := by rw [TN.out, i12s_app]; simp [i12s]
                    rw [e1, e2]
                    first | exact own_lower hown6 B1.out.size | (rw [List.append_assoc] at *; exact own_lower hown6 B1.out.size) | (rw [List.append_assoc]; exact own_lower hown6 B1.out.size))
                  obtain ⟨oo, om, oc, rfl⟩ := own_slice (show w6.ownsRow _ _ _ _ _ _ from O6.out)
                  have G6 := Lib.hid (G1.out.below B6.out)
                  have f0 := G6.out.free 0
                  have f1 := G6.out.free 1
                  obtain ⟨c0, c1⟩ := G6.out.cells
                  clear hown6 hg6 s1 s2
                  go_wp2_with fail
                  have GF := Lib.hid (G6.out.set (.slice oo om oc) 0)
                  obtain ⟨g0, g1⟩ := GF.out.cells
                  exact bodyPost_ret (v := .agg #[.slice oo om oc, .int .i64 0]) (by simp [results, Try.results19, go_sem, g0, g1]) rfl ⟨.slice oo om oc, by rw [R.out]; rfl, below_set2 (below_tr B1.out B6.out) (Nat.le_succ _) _ _, by rw [R.out]; exact O6.out.far (O6.out.apart G6.out) _ _⟩
end
end Go.Proofs.Ytmpakgabehplbaa
