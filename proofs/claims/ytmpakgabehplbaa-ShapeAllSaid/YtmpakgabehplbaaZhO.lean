/- Package shape: moveTo. -/
import Derived.Test.YtmpakgabehplbaaZhN
namespace Go.Proofs.Ytmpakgabehplbaa
open Go.RowKit
set_option linter.unusedVariables false
set_option linter.unusedSimpArgs false
/-- The block of a move. -/
def MvB (w : World) (g : Nat) (a b c d : Value) : Prop := w.heap[g]? = some (.cells #[a, b, c, d] 76 (0, 0))
theorem MvB.lt {w : World} {g : Nat} {a b c d : Value} (h : MvB w g a b c d) : g < w.heap.size := (Array.getElem?_eq_some_iff.1 h).1
theorem MvB.cells {w : World} {g : Nat} {a b c d : Value} (h : MvB w g a b c d) : w.cell? ⟨g, 0, none⟩ = some a ∧ w.cell? ⟨g, 1, none⟩ = some b ∧ w.cell? ⟨g, 2, none⟩ = some c ∧ w.cell? ⟨g, 3, none⟩ = some d := ⟨(cell_of_row _ _ 0 _ _ _ h).trans rfl, (cell_of_row _ _ 1 _ _ _ h).trans rfl, (cell_of_row _ _ 2 _ _ _ h).trans rfl, (cell_of_row _ _ 3 _ _ _ h).trans rfl⟩
theorem MvB.below {w w' : World} {g : Nat} {a b c d : Value} (h : MvB w g a b c d) (hb : Below w.heap.size w w') : MvB w' g a b c d := (hb.block g h.lt).trans h
theorem MvB.new (w : World) (a b c d : Value) : MvB (w.alloc (.cells #[a, b, c, d] 76)) w.heap.size a b c d := heap_alloc_new w _
theorem MvB.free {w : World} {g : Nat} {a b c d : Value} (h : MvB w g a b c d) (o : Nat) : w.frozen? ⟨g, o, none⟩ = false := by
  unfold MvB at h
  simp [World.frozen?, h]
theorem MvB.set4 {w : World} {g : Nat} {a b c d : Value} (h : MvB w g a b c d) (a' b' c' d' : Value) : MvB ((((w.setCell ⟨g, 0, none⟩ a').setCell ⟨g, 1, none⟩ b').setCell ⟨g, 2, none⟩ c').setCell ⟨g, 3, none⟩ d') g a' b' c' d' := by
  have h0 := heap_setCell_same w g 0 _ _ a' h
  have h1 := heap_setCell_same _ g 1 _ _ b' h0
  have h2 := heap_setCell_same _ g 2 _ _ c' h1
  exact heap_setCell_same _ g 3 _ _ d' h2
/-- A row but for its last. -/
theorem nat_take {w : World} {B : Nat} {ao : Option Addr} {cap a : Nat} {A : List Nat} (h : NatO w B (.slice ao (A ++ [a]).length cap) (A ++ [a])) : NatO w B (.slice ao A.length cap) A := by
  unfold NatO at h ⊢
  obtain ⟨h1, h2⟩ := h
  refine ⟨by rw [natC_len]; omega, ?_⟩
  rcases h2 with ⟨e, h0⟩ | ⟨g, cap', cur, e, hb, hg, hnc, hcm, hcs, ht⟩
  · rw [List.length_append] at h0; simp at h0
  · simp only [Value.slice.injEq] at e
    obtain ⟨rfl, -, rfl⟩ := e
    rw [List.length_append, List.length_singleton] at hnc
    refine .inr ⟨g, cap, cur, rfl, hb, hg, by omega, hcm, hcs, ?_⟩
    have h5 := congrArg (List.take A.length) ht
    have h6 : (natC (A ++ [a])).take A.length = natC A := by rw [natC_app]; exact List.take_left' (natC_len A)
    rw [h6, List.take_take] at h5
    rw [← h5]
    congr 1
    rw [List.length_append]; simp
theorem nat_cap {w : World} {B : Nat} {ao : Option Addr} {n cap : Nat} {A : List Nat} (h : NatO w B (.slice ao n cap) A) : n ≤ cap ∧ cap ≤ 9223372036854775807 := by
  rcases h.2 with ⟨e, h0⟩ | ⟨g, cap', cur, e, hb, hg, hnc, hcm, hcs, ht⟩
  · simp only [Value.slice.injEq] at e
    omega
  · simp only [Value.slice.injEq] at e
    unfold maxLen at hcm
    omega
theorem nat_far {w : World} {B g : Nat} {v : Value} {xs : List Nat} {a b c d : Value} (h : NatO w B v xs) (hg : MvB w g a b c d) (a' b' c' d' : Value) : NatO ((((w.setCell ⟨g, 0, none⟩ a').setCell ⟨g, 1, none⟩ b').setCell ⟨g, 2, none⟩ c').setCell ⟨g, 3, none⟩ d') B v xs := by
  have ne := row_off h hg (by decide)
  exact ownsRow_setCell_other (ownsRow_setCell_other (ownsRow_setCell_other (ownsRow_setCell_other h ne _) ne _) ne _) ne _
def MvT (l : List I12) (x : I12) (p : ByteArray) (iv : Value) (k : Nat) (w : World) : Ending → World → Prop := fun e w' => ∃ F T C fo fc ta tc, e = .returned (.agg #[iv, .int .i64 (k : Int), .slice fo F.length fc, .slice ta T.length tc]) ∧ Below w.heap.size w w' ∧ NatO w' w.heap.size (.slice fo F.length fc) F ∧ NatO w' w.heap.size (.slice ta T.length tc) T ∧
  ptL l (upI l x.parent) = F ++ C ∧ ptL l (upI l p) = T ++ C ∧ (∀ A B z, F = A ++ [z] → T = B ++ [z] → False)
section
variable (w : World)
set_option maxHeartbeats 16000000 in
set_option maxRecDepth 100000 in
theorem pmoveTo (B : Nat) (l : List I12) (hr : RT l) (g cap k : Nat) (x : I12) (hB : IOwn w B l (.slice (some ⟨g, 0, none⟩) l.length cap)) (hx : l[k]? = some x) (p : ByteArray) :
    Calls Try.prog 45 #[.agg #[.slice (some ⟨g, 0, none⟩) l.length cap, .int .i64 (k : Int)], .string p] w (MvT l x p (.slice (some ⟨g, 0, none⟩) l.length cap) k w) := by
  have hl : l.length ≤ 120 := hr.len
  have kl : k < l.length := (List.getElem?_eq_some_iff.1 hx).1
  have PN := Lib.hid (fun W => pone W g l.length cap k kl)
  have IR := Lib.hid (irow_of_own hB)
  have PWf := Lib.hid (fun W (hW : Below w.heap.size w W) => pway W l _ (IR.out.below hW) hr x.parent)
  have PWt := Lib.hid (fun W (hW : Below w.heap.size w W) => pway W l _ (IR.out.below hW) hr p)
  have FL := Lib.hid (show (ptL l (upI l x.parent)).length ≤ 120 from Nat.le_trans (pt_len _ _) (by have := hr.up x.parent; omega))
  have TL := Lib.hid (show (ptL l (upI l p)).length ≤ 120 from Nat.le_trans (pt_len _ _) (by have := hr.up p; omega))
  have B0 := Lib.hid (below_al (below_al (Below.refl w.heap.size w) (.cells #[.slice (some ⟨g, 0, none⟩) l.length cap, .int .i64 (k : Int)] 69)) (.cells #[.slice none 0 0, .int .i64 0, .slice none 0 0, .slice none 0 0] 76))
  have C0 := Lib.hid ((ChB.new w (.slice (some ⟨g, 0, none⟩) l.length cap) (.int .i64 (k : Int))).below (below_al (Below.refl _ (w.alloc (.cells #[.slice (some ⟨g, 0, none⟩) l.length cap, .int .i64 (k : Int)] 69))) (.cells #[.slice none 0 0, .int .i64 0, .slice none 0 0, .slice none 0 0] 76)))
  have V0 := Lib.hid (show MvB ((w.alloc (.cells #[.slice (some ⟨g, 0, none⟩) l.length cap, .int .i64 (k : Int)] 69)).alloc (.cells #[.slice none 0 0, .int .i64 0, .slice none 0 0, .slice none 0 0] 76)) (w.heap.size + 1) (.slice none 0 0) (.int .i64 0) (.slice none 0 0) (.slice none 0 0) from heap_at (by simp))
  obtain ⟨-, A0⟩ := own_at12 hB hx
  have k1 := hold B0.out A0.c1
  obtain ⟨c0, c1⟩ := C0.out.cells
  clear hB hx A0 hr
  unfold MvT
  generalize ptL l (upI l x.parent) = F at *
  generalize ptL l (upI l p) = T at *
  go_enter Try.func45, Try.ntmps45
  go_upto_region 1 with fail
  generalize (w.alloc (.cells #[.slice (some ⟨g, 0, none⟩) l.length cap, .int .i64 (k : Int)] 69)).alloc (.cells #[.slice none 0 0, .int .i64 0, .slice none 0 0, .slice none 0 0] 76) = w0 at *
  refine wp_region_mono_tail 12 (by kernel_rfl) (by kernel_rfl) (Nat.le_of_ble_eq_true (by kernel_rfl)) (by kernel_rfl) ?_
  simp only [List.map_cons, List.map_nil]
  simp only [List.take_succ_cons, List.take_zero, List.drop_succ_cons, List.drop_zero]
  repeat (first
    | (apply wpM_is
       · (intro us W hW hg K hK
          clear hg
          have d0 := hold hW c0
          have d1 := hold hW c1
          have e1 := hold hW k1
          simp only [fillA]
          go_simp
          first
          | exact hK _ (Below.refl _ _)
          | ((with_reducible refine (PN.out _).mono ?_); rintro e w' ⟨rfl, hb⟩; exact hK _ hb))
       simp only [setD, List.set_cons_zero, List.set_cons_succ]))
  refine wpM_any (fun v W => NatO W w.heap.size v F) (fun v W W' h hb => NatO.below h hb) ?_ ?_
  · intro us W hW hg K hK
    clear hg
    simp only [fillA]
    go_simp
    (with_reducible refine (PWf.out W (below_tr B0.out hW)).mono ?_)
    rintro e w' ⟨v, rfl, hb, ho⟩
    exact hK _ _ (own_lower0 ho (below_tr B0.out hW).size) hb
  simp only [setD, List.set_cons_zero, List.set_cons_succ]
  repeat (first
    | (apply wpM_is
       · (intro us W hW hg K hK
          clear hg
          have d0 := hold hW c0
          have d1 := hold hW c1
          have e1 := hold hW k1
          simp only [fillA]
          go_simp
          first
          | exact hK _ (Below.refl _ _)
          | ((with_reducible refine (PN.out _).mono ?_); rintro e w' ⟨rfl, hb⟩; exact hK _ hb))
       simp only [setD, List.set_cons_zero, List.set_cons_succ]))
  refine wpM_any (fun v W => NatO W w.heap.size v T) (fun v W W' h hb => NatO.below h hb) ?_ ?_
  · intro us W hW hg K hK
    clear hg
    simp only [fillA]
    go_simp
    (with_reducible refine (PWt.out W (below_tr B0.out hW)).mono ?_)
    rintro e w' ⟨v, rfl, hb, ho⟩
    exact hK _ _ (own_lower0 ho (below_tr B0.out hW).size) hb
  simp only [setD, List.set_cons_zero, List.set_cons_succ]
  intro us W hW hg
  have h14 := hg 14 _ rfl
  have h18 := hg 18 _ rfl
  simp only [fillA]
  clear hg
  have B1 := Lib.hid (below_tr B0.out hW)
  have C1 := Lib.hid (C0.out.below hW)
  have V1 := Lib.hid (V0.out.below hW)
  obtain ⟨fo, fc, hfv⟩ := own_shape h14
  obtain ⟨ta, tc, htv⟩ := own_shape h18
  rw [hfv] at h14
  rw [htv] at h18
  have F1 := Lib.hid h14
  have T1 := Lib.hid h18
  generalize us 14 = u14 at *
  generalize us 18 = u18 at *
  subst hfv
  subst htv
  clear h14 h18 hW c0 c1 k1 us
  go_wp2_with fail
  have FH := Lib.hid FL.out
  have TH := Lib.hid TL.out
  go_loopg [5, 6] F.length (fun m fv tv wr => ∃ (F' T' C : List Nat) (fo' : Option Addr) (fc' : Nat) (ta' : Option Addr) (tc' : Nat), fv = .slice fo' F'.length fc' ∧ tv = .slice ta' T'.length tc' ∧ F'.length ≤ m ∧ Below w.heap.size w wr ∧ ChB wr w.heap.size (.slice (some ⟨g, 0, none⟩) l.length cap) (.int .i64 (k : Int)) ∧ MvB wr (w.heap.size + 1) (.slice none 0 0) (.int .i64 0) (.slice none 0 0) (.slice none 0 0) ∧ NatO wr w.heap.size (.slice fo' F'.length fc') F' ∧ NatO wr w.heap.size (.slice ta' T'.length tc') T' ∧ Hid (F = F' ++ C ∧ T = T' ++ C))
  case atStart => exact ⟨F, T, [], fo, fc, ta, tc, rfl, rfl, Nat.le_refl _, B1.out, C1.out, V1.out, F1.out, T1.out, Lib.hid ⟨by simp, by simp⟩⟩
  case round =>
    obtain ⟨F', T', C, fo', fc', ta', tc', rfl, rfl, hm, hb, hc, hv, hf, ht, HFT⟩ := hrel
    have HM := Lib.hid hm
    have BR := Lib.hid hb
    have CR := Lib.hid hc
    have VR := Lib.hid hv
    have FR := Lib.hid hf
    have TR := Lib.hid ht
    have fl : F'.length ≤ 120 := by have h1 := HFT.out.1; have h2 := FH.out; rw [h1, List.length_append] at h2; omega
    have tl : T'.length ≤ 120 := by have h1 := HFT.out.2; have h2 := TH.out; rw [h1, List.length_append] at h2; omega
    clear hm hb hc hv hf ht
    rcases List.eq_nil_or_concat F' with rfl | ⟨A, a, hAa⟩
    · have HX := Lib.hid (show ∀ A' B' z, ([] : List Nat) = A' ++ [z] → T' = B' ++ [z] → False from fun A' B' z e _ => by simp at e)
      simp only [List.length_nil] at fl ⊢
      go_upto_region 2 with fail
      refine wp_region_mono (by kernel_rfl) (by kernel_rfl) ?_
      simp only [List.map_cons, List.map_nil]
      repeat (first
        | (apply wpM_is
           · (intro us W hW hg K hK
              clear hg
              simp only [fillA]
              go_simp
              first
              | exact hK _ (Below.refl _ _))
           simp only [setD, List.set_cons_zero, List.set_cons_succ]))
      intro us W hW hg
      simp only [fillA]
      clear hg
      have BW := Lib.hid (below_tr BR.out hW)
      have CW := Lib.hid (CR.out.below hW)
      have VW := Lib.hid (VR.out.below hW)
      have FW := Lib.hid (NatO.below FR.out hW)
      have TW := Lib.hid (NatO.below TR.out hW)
      obtain ⟨c0, c1⟩ := CW.out.cells
      have z0 := VW.out.free 0
      have z1 := VW.out.free 1
      have z2 := VW.out.free 2
      have z3 := VW.out.free 3
      obtain ⟨b0, b1, b2, b3⟩ := VW.out.cells
      clear hW
      go_wp2_with fail
      have SV := VW.out.set4 (.slice (some ⟨g, 0, none⟩) l.length cap) (.int .i64 (k : Int)) (.slice fo' 0 fc') (.slice ta' T'.length tc')
      have SF := nat_far FW.out VW.out (.slice (some ⟨g, 0, none⟩) l.length cap) (.int .i64 (k : Int)) (.slice fo' 0 fc') (.slice ta' T'.length tc')
      have ST := nat_far TW.out VW.out (.slice (some ⟨g, 0, none⟩) l.length cap) (.int .i64 (k : Int)) (.slice fo' 0 fc') (.slice ta' T'.length tc')
      have BS := below_set4 BW.out (g := w.heap.size + 1) (Nat.le_succ _) (.slice (some ⟨g, 0, none⟩) l.length cap) (.int .i64 (k : Int)) (.slice fo' 0 fc') (.slice ta' T'.length tc')
      obtain ⟨e0, e1, e2, e3⟩ := SV.cells
      exact bodyPost_ret (v := .agg #[.slice (some ⟨g, 0, none⟩) l.length cap, .int .i64 (k : Int), .slice fo' 0 fc', .slice ta' T'.length tc']) (by simp [results, Try.results45, go_sem, e0, e1, e2, e3]) rfl ⟨[], T', C, _, _, _, _, rfl, BS, SF, ST, HFT.out.1, HFT.out.2, HX.out⟩
    · rw [List.concat_eq_append] at hAa
      subst hAa
      obtain ⟨bf, eb, q0⟩ := own_cell FR.out (show (A ++ [a])[A.length]? = some a by simp)
      obtain rfl := eb
      have el : (A ++ [a]).length = A.length + 1 := by simp
      have FT := Lib.hid (nat_take FR.out)
      rcases List.eq_nil_or_concat T' with rfl | ⟨B, b, hBb⟩
      · have HX := Lib.hid (show ∀ A' B' z, A ++ [a] = A' ++ [z] → ([] : List Nat) = B' ++ [z] → False from fun A' B' z _ e => by simp at e)
        rw [el] at fl
        simp only [List.length_nil] at tl ⊢
        rw [el]
        go_upto_region 2 with fail
        refine wp_region_mono (by kernel_rfl) (by kernel_rfl) ?_
        simp only [List.map_cons, List.map_nil]
        repeat (first
          | (apply wpM_is
             · (intro us W hW hg K hK
                clear hg
                have r0 := hold hW q0
                simp only [fillA]
                go_simp
                first
                | exact hK _ (Below.refl _ _))
             simp only [setD, List.set_cons_zero, List.set_cons_succ]))
        intro us W hW hg
        simp only [fillA]
        clear hg
        have BW := Lib.hid (below_tr BR.out hW)
        have CW := Lib.hid (CR.out.below hW)
        have VW := Lib.hid (VR.out.below hW)
        have FW := Lib.hid (NatO.below FR.out hW)
        have TW := Lib.hid (NatO.below TR.out hW)
        obtain ⟨c0, c1⟩ := CW.out.cells
        have z0 := VW.out.free 0
        have z1 := VW.out.free 1
        have z2 := VW.out.free 2
        have z3 := VW.out.free 3
        obtain ⟨b0, b1, b2, b3⟩ := VW.out.cells
        clear hW
        go_wp2_with fail
        have SV := VW.out.set4 (.slice (some ⟨g, 0, none⟩) l.length cap) (.int .i64 (k : Int)) (.slice (some ⟨bf, 0, none⟩) (A.length + 1) fc') (.slice ta' 0 tc')
        have SF := nat_far FW.out VW.out (.slice (some ⟨g, 0, none⟩) l.length cap) (.int .i64 (k : Int)) (.slice (some ⟨bf, 0, none⟩) (A.length + 1) fc') (.slice ta' 0 tc')
        have ST := nat_far TW.out VW.out (.slice (some ⟨g, 0, none⟩) l.length cap) (.int .i64 (k : Int)) (.slice (some ⟨bf, 0, none⟩) (A.length + 1) fc') (.slice ta' 0 tc')
        have BS := below_set4 BW.out (g := w.heap.size + 1) (Nat.le_succ _) (.slice (some ⟨g, 0, none⟩) l.length cap) (.int .i64 (k : Int)) (.slice (some ⟨bf, 0, none⟩) (A.length + 1) fc') (.slice ta' 0 tc')
        obtain ⟨e0, e1, e2, e3⟩ := SV.cells
        exact bodyPost_ret (v := .agg #[.slice (some ⟨g, 0, none⟩) l.length cap, .int .i64 (k : Int), .slice (some ⟨bf, 0, none⟩) (A.length + 1) fc', .slice ta' 0 tc']) (by simp [results, Try.results45, go_sem, e0, e1, e2, e3]) rfl ⟨(A ++ [a]), [], C, _, _, _, _, by rw [el]; rfl, BS, SF, ST, HFT.out.1, HFT.out.2, HX.out⟩
      · rw [List.concat_eq_append] at hBb
        subst hBb
        obtain ⟨bt, eb, q1⟩ := own_cell TR.out (show (B ++ [b])[B.length]? = some b by simp)
        obtain rfl := eb
        have el2 : (B ++ [b]).length = B.length + 1 := by simp
        have TT := Lib.hid (nat_take TR.out)
        rw [el] at fl
        rw [el2] at tl
        rw [el, el2]
        have s0 : (0 : Int) ≤ (A.length : Int) := by omega
        have wA : IntKind.i64.wrap (A.length : Int) = (A.length : Int) := by rw [IntKind.wrap_i64]; omega
        have wB : IntKind.i64.wrap (B.length : Int) = (B.length : Int) := by rw [IntKind.wrap_i64]; omega
        have s1 : (A.length : Int) < (A.length : Int) + 1 := by omega
        have s2 : (0 : Int) ≤ (B.length : Int) := by omega
        have s3 : (B.length : Int) < (B.length : Int) + 1 := by omega
        by_cases hab : a = b
        · subst hab
          go_upto_region 2 with fail
          refine wp_region_mono (by kernel_rfl) (by kernel_rfl) ?_
          simp only [List.map_cons, List.map_nil]
          repeat (first
            | (apply wpM_is
               · (intro us W hW hg K hK
                  clear hg
                  have r0 := hold hW q0
                  have r1 := hold hW q1
                  simp only [fillA]
                  go_simp
                  first
                  | exact hK _ (Below.refl _ _))
               simp only [setD, List.set_cons_zero, List.set_cons_succ]))
          intro us W hW hg
          simp only [fillA]
          clear hg
          have BW := Lib.hid (below_tr BR.out hW)
          have CW := Lib.hid (CR.out.below hW)
          have VW := Lib.hid (VR.out.below hW)
          have FW := Lib.hid (NatO.below FT.out hW)
          have TW := Lib.hid (NatO.below TT.out hW)
          have p0 := nat_cap FR.out
          have p1 := nat_cap TR.out
          rw [el] at p0
          rw [el2] at p1
          have p2 : (A.length : Int) ≤ (fc' : Int) := by omega
          have p3 : (B.length : Int) ≤ (tc' : Int) := by omega
          have p4 : A.length ≤ fc' := by omega
          have p5 : B.length ≤ tc' := by omega
          obtain ⟨p6, p7⟩ := p0
          obtain ⟨p8, p9⟩ := p1
          clear hW q0 q1
          go_upto_region 3 with fail
          refine wp_region_mono (by kernel_rfl) (by kernel_rfl) ?_
          simp only [List.map_cons, List.map_nil]
          repeat (first
            | (apply wpM_is
               · (intro us W hW hg K hK
                  clear hg
                  simp only [fillA]
                  go_simp
                  first
                  | exact hK _ (Below.refl _ _))
               simp only [setD, List.set_cons_zero, List.set_cons_succ]))
          intro us' W2 hW hg
          simp only [fillA]
          clear hg
          have BV := Lib.hid (below_tr BW.out hW)
          have CV := Lib.hid (CW.out.below hW)
          have VV := Lib.hid (VW.out.below hW)
          have FV := Lib.hid (NatO.below FW.out hW)
          have TV := Lib.hid (NatO.below TW.out hW)
          clear hW
          have hmA : A.length + 1 ≤ gk := by have := HM.out; rw [el] at this; exact this
          obtain ⟨g', rfl⟩ : ∃ g', gk = g' + 1 := ⟨gk - 1, by omega⟩
          have HA := Lib.hid (show A.length ≤ g' by omega)
          have HFT2 := Lib.hid (show F = A ++ (a :: C) ∧ T = B ++ (a :: C) from ⟨by rw [HFT.out.1]; simp, by rw [HFT.out.2]; simp⟩)
          go_wp2_with fail
          go_roundg g'
          case rel => exact ⟨A, B, a :: C, _, _, _, _, rfl, rfl, HA.out, BV.out, CV.out, VV.out, FV.out, TV.out, HFT2⟩
          case measure => omega
        · have HX := Lib.hid (show ∀ A' B' z, A ++ [a] = A' ++ [z] → B ++ [b] = B' ++ [z] → False from fun A' B' z h1 h2 => by
            have e1 := List.append_inj_right' h1 rfl
            have e2 := List.append_inj_right' h2 rfl
            simp only [List.cons.injEq, and_true] at e1 e2
            exact hab (e1.trans e2.symm))
          have ne : ((a : Int) == (b : Int)) = false := beq_false_of_ne (by omega)
          have ne2 : ¬ ((a : Int) = (b : Int)) := by omega
          clear hab
          go_upto_region 2 with fail
          refine wp_region_mono (by kernel_rfl) (by kernel_rfl) ?_
          simp only [List.map_cons, List.map_nil]
          repeat (first
            | (apply wpM_is
               · (intro us W hW hg K hK
                  clear hg
                  have r0 := hold hW q0
                  have r1 := hold hW q1
                  simp only [fillA]
                  go_simp
                  first
                  | exact hK _ (Below.refl _ _))
               simp only [setD, List.set_cons_zero, List.set_cons_succ]))
          intro us W hW hg
          simp only [fillA]
          clear hg
          have BW := Lib.hid (below_tr BR.out hW)
          have CW := Lib.hid (CR.out.below hW)
          have VW := Lib.hid (VR.out.below hW)
          have FW := Lib.hid (NatO.below FR.out hW)
          have TW := Lib.hid (NatO.below TR.out hW)
          obtain ⟨c0, c1⟩ := CW.out.cells
          have z0 := VW.out.free 0
          have z1 := VW.out.free 1
          have z2 := VW.out.free 2
          have z3 := VW.out.free 3
          obtain ⟨b0, b1, b2, b3⟩ := VW.out.cells
          clear hW
          go_wp2_with fail
          have SV := VW.out.set4 (.slice (some ⟨g, 0, none⟩) l.length cap) (.int .i64 (k : Int)) (.slice (some ⟨bf, 0, none⟩) (A.length + 1) fc') (.slice (some ⟨bt, 0, none⟩) (B.length + 1) tc')
          have SF := nat_far FW.out VW.out (.slice (some ⟨g, 0, none⟩) l.length cap) (.int .i64 (k : Int)) (.slice (some ⟨bf, 0, none⟩) (A.length + 1) fc') (.slice (some ⟨bt, 0, none⟩) (B.length + 1) tc')
          have ST := nat_far TW.out VW.out (.slice (some ⟨g, 0, none⟩) l.length cap) (.int .i64 (k : Int)) (.slice (some ⟨bf, 0, none⟩) (A.length + 1) fc') (.slice (some ⟨bt, 0, none⟩) (B.length + 1) tc')
          have BS := below_set4 BW.out (g := w.heap.size + 1) (Nat.le_succ _) (.slice (some ⟨g, 0, none⟩) l.length cap) (.int .i64 (k : Int)) (.slice (some ⟨bf, 0, none⟩) (A.length + 1) fc') (.slice (some ⟨bt, 0, none⟩) (B.length + 1) tc')
          obtain ⟨e0, e1, e2, e3⟩ := SV.cells
          exact bodyPost_ret (v := .agg #[.slice (some ⟨g, 0, none⟩) l.length cap, .int .i64 (k : Int), .slice (some ⟨bf, 0, none⟩) (A.length + 1) fc', .slice (some ⟨bt, 0, none⟩) (B.length + 1) tc']) (by simp [results, Try.results45, go_sem, e0, e1, e2, e3]) rfl ⟨(A ++ [a]), (B ++ [b]), C, _, _, _, _, by rw [el, el2], BS, SF, ST, HFT.out.1, HFT.out.2, HX.out⟩
end
end Go.Proofs.Ytmpakgabehplbaa
