/- WantAll: what is said of any declared tree is the document's, where package want answers so. -/
import Derived.Test.YtmiadhcmhnjmfaaWnF
namespace Go.Proofs.Ytmiadhcmhnjmfaa
open Go.RowKit
set_option linter.unusedVariables false
set_option linter.unusedSimpArgs false
theorem wrow_new {w : World} {g : Nat} (l : List W5) (h : w.heap[g]? = some (.cells (w5s l).toArray 39 (0, 0))) (hl : l.length ≤ maxLen) : WRow w l (.slice (some ⟨g, 0, none⟩) l.length l.length) :=
  wrow_of (Nat.le_refl _) hl fun j u hj => by
    rw [cell_of_row _ _ _ _ _ _ h]
    simpa using hj
def exW : List W5 := [⟨⟨#[98]⟩, ⟨#[97]⟩, z3⟩, ⟨⟨#[97]⟩, ⟨#[]⟩, z3⟩]
theorem exW_check : checkL exW = 0 := by kernel_rfl
theorem exW_none : checkL [] = 0 := by kernel_rfl
theorem exW_top : topL exW = [⟨⟨#[97]⟩, ⟨#[]⟩, z3⟩, ⟨⟨#[98]⟩, ⟨#[97]⟩, z3⟩] := by kernel_rfl
theorem exW_depth : depthL exW ⟨#[98]⟩ = 2 := by kernel_rfl
theorem exW_size : ∀ u ∈ exW, u.name.size ≤ 1000000 ∧ u.parent.size ≤ 1000000 := by
  intro u hu
  simp only [exW, List.mem_cons, List.not_mem_nil, or_false] at hu
  rcases hu with rfl | rfl <;> exact ⟨by decide, by decide⟩
section
variable (w : World)
set_option maxHeartbeats 4000000 in
set_option maxRecDepth 20000 in
theorem law11_awake (CK : CkP) (DP : DpP) (TP : TpP) : Calls Try.prog 9 #[] w (Made (.bool true) w) := by
  have R0 := Lib.hid (show WRow (w.alloc (.cells #[.string ⟨#[98]⟩, .string ⟨#[97]⟩, .int .i64 0, .int .i64 0, .int .i64 0, .string ⟨#[97]⟩, .string ⟨#[]⟩, .int .i64 0, .int .i64 0, .int .i64 0] 39)) exW (.slice (some ⟨w.heap.size, 0, none⟩) 2 2) from wrow_new exW (heap_alloc_new w _) (by unfold maxLen; decide))
  have B0 := Lib.hid (below_al (Below.refl w.heap.size w) (.cells #[.string ⟨#[98]⟩, .string ⟨#[97]⟩, .int .i64 0, .int .i64 0, .int .i64 0, .string ⟨#[97]⟩, .string ⟨#[]⟩, .int .i64 0, .int .i64 0, .int .i64 0] 39))
  have T1 := Lib.hid (fun W (h : WRow W exW (.slice (some ⟨w.heap.size, 0, none⟩) 2 2)) => TP W exW _ h exW_size (.inl exW_check))
  have C1 := Lib.hid (show ∀ W, Calls Try.prog 12 #[.slice none 0 0] W (Made (.int .i64 0) W) from fun W => by
    have := CK W [] (.slice none 0 0) (WRow.nil W) (fun u hu => by cases hu) (by simp)
    rw [exW_none] at this; exact this)
  have D1 := Lib.hid (show ∀ W (h : WRow W exW (.slice (some ⟨w.heap.size, 0, none⟩) 2 2)), Calls Try.prog 13 #[.slice (some ⟨w.heap.size, 0, none⟩) 2 2, .string ⟨#[98]⟩] W (Made (.int .i64 2) W) from fun W h => by
    have := DP W exW _ ⟨#[98]⟩ h exW_size (by decide) (.inl exW_check)
    rw [exW_depth] at this; exact this)
  go_enter Try.func9, Try.ntmps9
  go_wp2_with fail
  (with_reducible refine (T1.out _ R0.out).mono ?_)
  rintro e w1 ⟨v1, rfl, hb1, hown⟩
  rw [exW_top] at hown
  have R1 := Lib.hid (wrow_of_own hown)
  obtain ⟨ao, cap, rfl⟩ := (wrow_of_own hown).shape
  obtain ⟨ao', cap', e', hc1, hc2, hat⟩ := R1.out
  simp only [Value.slice.injEq] at e'
  obtain ⟨rfl, -, rfl⟩ := e'
  obtain ⟨g, o, rfl, t0, -⟩ := hat 0 ⟨⟨#[97]⟩, ⟨#[]⟩, z3⟩ rfl
  simp only [Nat.zero_mul, Nat.add_zero] at t0
  have B1 := Lib.hid (below_tr B0.out hb1)
  have X1 := Lib.hid (R0.out.below hb1)
  clear hown hat R1 hc1 hc2 hb1
  go_wp2_with fail
  with_reducible refine (C1.out _).mono ?_
  rintro e w2 ⟨rfl, hb2⟩
  replace t0 := hold hb2 t0
  have B2 := Lib.hid (below_tr B1.out hb2)
  have X2 := Lib.hid (X1.out.below hb2)
  clear hb2
  go_wp2_with fail
  with_reducible refine (lnumE _ _).mono ?_
  rintro e w3 ⟨rfl, rfl⟩
  go_wp2_with fail
  (with_reducible refine (D1.out _ X2.out).mono ?_)
  rintro e w3 ⟨rfl, hb3⟩
  go_wp2_with fail
  go_ret
  exact ⟨rfl, below_tr B2.out hb3⟩
set_option maxHeartbeats 4000000 in
set_option maxRecDepth 20000 in
theorem law_wantall (CK : CkP) (DP : DpP) (TP : TpP) (l : List W5) (lv : Value) (s : ByteArray) (h : WRow w l lv) (hz : ∀ u ∈ l, u.name.size ≤ maxLen ∧ u.parent.size ≤ maxLen) (hs : s.size ≤ maxLen) :
    Calls Try.prog 3 #[lv, .string s] w (Made (.bool true) w) := by
  have H := Lib.hid h
  have AW := Lib.hid (fun W => law11_awake W CK DP TP)
  have GR := Lib.hid (lgreat w l lv h hz)
  obtain ⟨ao, cap, rfl⟩ := h.shape
  unfold maxLen at hs
  clear h hz
  go_enter Try.func3, Try.ntmps3
  go_wp2_with fail
  with_reducible refine GR.out.mono ?_
  rintro e w1 ⟨b, rfl, rfl, hsm⟩
  cases b
  case true =>
    go_wp2_with fail
    with_reducible refine (AW.out _).mono ?_
    rintro e w2 ⟨rfl, hb2⟩
    go_wp2_with fail
    go_ret
    exact ⟨rfl, hb2⟩
  case false =>
    obtain ⟨hlen, hsz⟩ := hsm rfl
    by_cases hbig : 100 < s.size
    · have hb' : (100 : Int) < (s.size : Int) := by omega
      clear hsz
      go_wp2_with fail
      with_reducible refine (AW.out _).mono ?_
      rintro e w2 ⟨rfl, hb2⟩
      go_wp2_with fail
      go_ret
      exact ⟨rfl, hb2⟩
    · have hb' : ¬ (100 : Int) < (s.size : Int) := by omega
      have SZ := Lib.hid (show ∀ u ∈ l, u.name.size ≤ 1000000 ∧ u.parent.size ≤ 1000000 from fun u hu => by have := hsz u hu; omega)
      have RC := Lib.hid (fun W (hW : Below w.heap.size w W) => rcheck W l _ (H.out.below hW) (fun u hu => (SZ.out u hu).1))
      have CC := Lib.hid (fun W (hW : Below w.heap.size w W) => CK W l _ (H.out.below hW) SZ.out (by omega))
      have DD := Lib.hid (fun (hf : FitW l) W (hW : Below w.heap.size w W) => DP W l _ s (H.out.below hW) SZ.out (by omega) hf)
      have RD := Lib.hid (fun W (hW : Below w.heap.size w W) => rdepth W l _ (H.out.below hW) (by omega) s)
      have TT := Lib.hid (fun (hf : FitW l) W (hW : Below w.heap.size w W) => TP W l _ (H.out.below hW) SZ.out hf)
      have RT := Lib.hid (fun W (hW : Below w.heap.size w W) => rtop W l _ (H.out.below hW) (by omega))
      have FT := Lib.hid (show FitW l ↔ (checkL l = 0 ∨ checkL l = 11) from Iff.rfl)
      clear hsz hlen
      generalize checkL l = c at *
      generalize depthL l s = d at *
      go_wp2_with fail
      (with_reducible refine (RC.out _ (Below.refl _ _)).mono ?_)
      rintro e w2 ⟨rfl, hb2⟩
      have B2 := Lib.hid hb2
      clear hb2
      go_wp2_with fail
      (with_reducible refine (CC.out _ B2.out).mono ?_)
      rintro e w3 ⟨rfl, hb3⟩
      have B3 := Lib.hid (below_tr B2.out hb3)
      clear hb3
      go_wp2_with fail
      with_reducible refine (lnumE _ _).mono ?_
      rintro e w4 ⟨rfl, rfl⟩
      by_cases hf : c = 0 ∨ c = 11
      · have F := Lib.hid (FT.out.2 hf)
        have e2 : (c != 0) = false ∨ (c != 0) = true ∧ (c != 11) = false := by
          rcases hf with hf | hf
          · exact .inl (by simp [hf])
          · exact .inr ⟨by simp [hf], by simp [hf]⟩
        clear hf
        have D1 := Lib.hid (DD.out F.out)
        have T1 := Lib.hid (TT.out F.out)
        rcases e2 with e2 | ⟨e2, e3⟩
        all_goals
          go_wp2_with fail
          (with_reducible refine (D1.out _ B3.out).mono ?_)
          rintro e w5 ⟨rfl, hb5⟩
          have B5 := Lib.hid (below_tr B3.out hb5)
          clear hb5
          go_wp2_with fail
          (with_reducible refine (RD.out _ B5.out).mono ?_)
          rintro e w6 ⟨rfl, rfl⟩
          go_wp2_with fail
          (with_reducible refine (T1.out _ B5.out).mono ?_)
          rintro e w6 ⟨v6, rfl, hb6, ho6⟩
          have B6 := Lib.hid (below_tr B5.out hb6)
          have O6 := Lib.hid (wrow_of_own ho6)
          clear hb6 ho6
          go_wp2_with fail
          (with_reducible refine (RT.out _ B6.out).mono ?_)
          rintro e w7 ⟨v7, rfl, hb7, ho7⟩
          have B7 := Lib.hid (below_tr B6.out hb7)
          have O7 := Lib.hid (wrow_of_own ho7)
          have O6a := Lib.hid (O6.out.below hb7)
          clear hb7 ho7
          go_wp2_with fail
          (refine (psameWants _ _ _ _ O6a.out O7.out).mono ?_)
          rintro e w8 ⟨rfl, hb8⟩
          have B8 := Lib.hid (below_tr B7.out hb8)
          clear hb8
          go_wp2_with fail
          with_reducible refine (AW.out _).mono ?_
          rintro e w9 ⟨rfl, hb9⟩
          go_wp2_with fail
          go_ret
          exact ⟨rfl, below_tr B8.out hb9⟩
      · have e2 : (c != 0) = true := by simp; omega
        have e3 : (c != 11) = true := by simp; omega
        clear hf
        go_wp2_with fail
        with_reducible refine (AW.out _).mono ?_
        rintro e w5 ⟨rfl, hb5⟩
        go_wp2_with fail
        go_ret
        exact ⟨rfl, below_tr B3.out hb5⟩
end
end Go.Proofs.Ytmiadhcmhnjmfaa
