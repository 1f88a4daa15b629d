/- The contract of the lexer's number. -/
import Derived.Test.YtlkdicabmikhkaaGreatDoorLexD
import Derived.Lib.ParseIntB
import Derived.Lib.SmallJoins
import Derived.Lib.AtoiErrMem
namespace Go.Proofs.YtlkdicabmikhkaaGreatDoor
open Go.RowKit
set_option linter.unusedVariables false
set_option linter.unusedSimpArgs false

theorem extract_run (p : Int → Bool) (s : ByteArray) (k : Nat) : (s.extract k (runTo p s k)).data.toList = (s.data.toList.drop k).takeWhile fun c => p c.toNat := by
  have h1 : (s.extract k (runTo p s k)).data.toList = (s.data.toList.drop k).take (runTo p s k - k) := by
    simp [ByteArray.data_extract, List.extract_eq_take_drop]
  rw [h1]
  unfold runTo runLen
  rw [Nat.add_sub_cancel_left]
  generalize s.data.toList.drop k = l
  induction l with
  | nil => rfl
  | cons c l ih =>
    by_cases h : p (c.toNat : Int) = true
    · rw [List.takeWhile_cons_of_pos (by simpa using h)]; simp [ih]
    · rw [List.takeWhile_cons_of_neg (by simpa using h)]; simp

/-- What the variable ErrRange holds reads as an error. -/
def ErrVar (w : World) : Prop := ∃ ev, w.cell? ⟨2, 0, none⟩ = some ev ∧ (ev = .nilIface ∨ ∃ te pe, ev = .iface te pe)
theorem ErrVar.lt {w : World} (h : ErrVar w) : 2 < w.heap.size := by obtain ⟨ev, h, _⟩ := h; exact World.block_lt_of_cell? w _ h
theorem ErrVar.below {w w' : World} {B : Nat} (h : ErrVar w) (hb : Below B w w') (hB : 2 < B) : ErrVar w' := by
  obtain ⟨ev, h1, h2⟩ := h
  exact ⟨ev, (hb.cell (p := ⟨2, 0, none⟩) hB).trans h1, h2⟩
theorem ErrVar.adv {w w' : World} {b : Nat} (h : ErrVar w) (ha : Adv b w w') (hB : 2 < b) : ErrVar w' := by
  have hl := h.lt
  obtain ⟨ev, h1, h2⟩ := h
  exact ⟨ev, (World.cell?_of_block (ha.block 2 hl (by omega))).trans h1, h2⟩

theorem mem_takeWhile {p : UInt8 → Bool} : ∀ {l : List UInt8} {c : UInt8}, c ∈ l.takeWhile p → p c = true := by
  intro l
  induction l with
  | nil => intro c h; simp at h
  | cons x l ih =>
    intro c h
    by_cases hx : p x = true
    · rw [List.takeWhile_cons_of_pos hx] at h
      rcases List.mem_cons.1 h with rfl | h
      · exact hx
      · exact ih h
    · rw [List.takeWhile_cons_of_neg hx] at h; simp at h
def AllDig (l : List UInt8) : Prop := ∀ c ∈ l, 48 ≤ c.toNat ∧ c.toNat ≤ 57
theorem parseUintM_dig (M : Nat) : ∀ (l : List UInt8) (acc : Nat), AllDig l → (∃ v, Lib.parseUintM M acc l = .ok v) ∨ Lib.parseUintM M acc l = .range := by
  intro l
  induction l with
  | nil => intro acc h; exact .inl ⟨acc, rfl⟩
  | cons c l ih =>
    intro acc h
    rw [Lib.parseUintM, if_pos (h c (by simp))]
    split
    · exact .inr rfl
    · split
      · exact .inr rfl
      · exact ih _ (fun x hx => h x (by simp [hx]))
theorem parseIntB_dig {l : List UInt8} (h : AllDig l) (hne : l ≠ []) : (∃ v, Lib.parseIntB 64 l = .ok v) ∨ Lib.parseIntB 64 l = .range := by
  match l, hne with
  | c :: r, _ =>
    have hc := h c (by simp)
    have hs : ¬ (c.toNat = 43 ∨ c.toNat = 45) := by omega
    unfold Lib.parseIntB
    simp only [if_neg hs]
    have hu := parseUintM_dig (2 ^ 64 - 1) (c :: r) 0 h
    unfold Lib.parseUintB
    rw [if_neg (by simp)]
    rcases hu with ⟨v, hu⟩ | hu
    · rw [hu]
      dsimp only
      split
      · exact .inr rfl
      · split
        · exact .inr rfl
        · exact .inl ⟨_, rfl⟩
    · rw [hu]; exact .inr rfl
def numV (d : ByteArray) : Int := match Lib.parseIntB 64 d.data.toList with | .ok v => v | _ => Lib.intSat 64 d.data.toList
def numB (d : ByteArray) : Bool := match Lib.parseIntB 64 d.data.toList with | .ok _ => (d.toList == [48] || pk d 0 != 48) | _ => false

section
variable (b k : Nat) (s : ByteArray) (w : World)
set_option maxRecDepth 20000 in
theorem number_any (h : Rd w b s k) (hk : k ≤ s.size) (hs : s.size ≤ 6000) (hv : ErrVar w) (hvb : 2 < b) (hd : digitB (pk s k) = true) (hks : k < s.size) :
    Calls Tryz.prog 78 #[.pointer (some ⟨b, 0, none⟩)] w (Moved b s (runTo digitB s k) (.tuple #[.int .i64 (numV (s.extract k (runTo digitB s k))), .bool (numB (s.extract k (runTo digitB s k)))]) w) := by
  have HL := Lib.hid (len_ok hs)
  have H48 := Lib.hid (show s.size ≤ 281474976710656 by omega)
  have HR := Lib.hid h
  have HB := Lib.hid h.lt
  have r1 := runTo_gt hks hd
  have r2 := runTo_le (p := digitB) hk
  have hex := extract_run digitB s k
  have hsz : (s.extract k (runTo digitB s k)).size = runTo digitB s k - k := by simp [ByteArray.size_extract]; omega
  have hdig : AllDig (s.extract k (runTo digitB s k)).data.toList := by
    rw [hex]
    intro c hc
    have := mem_takeWhile hc
    simp [digitB] at this
    omega
  have V := Lib.hid hv
  have VB := Lib.hid hvb
  have h' := h
  obtain ⟨g0, g1, g2⟩ := h'
  generalize hj : runTo digitB s k = j at *
  have HJ := Lib.hid hj
  generalize hd' : s.extract k j = d at *
  have HD := Lib.hid hd'
  have hd6 : d.size ≤ 6000 := by omega
  have hd0 : 0 < d.size := by omega
  have DM := Lib.hid (show d.size ≤ 9223372036854775806 by omega)
  have D48 := Lib.hid (show d.size ≤ 281474976710656 by omega)
  have R2 := Lib.hid r2
  have R1 := Lib.hid (show k ≤ j by omega)
  have hne : d.data.toList ≠ [] := by intro e; have := congrArg List.length e; have e2 : d.data.toList.length = d.size := rfl; simp only [List.length_nil] at this; omega
  have hnosyn := parseIntB_dig hdig hne
  clear hj hd' hex hsz hdig hd hv h hk hks hs r1 r2 hne
  rcases hnosyn with ⟨v, hp⟩ | hp
  · have P := Lib.hid hp
    have e1 : numV d = v := by simp [numV, hp]
    have e2 : numB d = (d.toList == [48] || pk d 0 != 48) := by simp [numB, hp]
    rw [e1, e2]
    clear e1 e2 hp
    cases hz : (d.toList == [48])
    · have hx := pk_in hd0
      have hgt : (((d[0].toNat : Int)) != 48) = (pk d 0 != 48) := by rw [hx]
      cases hz2 : (pk d 0 != 48)
      · rw [hz2] at hgt
        clear hx hz2 hd6
        go_enter Tryz.func78, Tryz.ntmps78
        go_wp2_with fail
        refine (pass_digit b k s w HR.out HL.out).mono ?_
        rw [HJ.out]
        rintro e w1 ⟨rfl, hr1, ha1⟩
        have RW1 := Lib.hid hr1
        have A1 := Lib.hid ha1
        clear hr1 ha1
        go_wp2_with fail
        refine (since_any b j s w1 k R1.out RW1.out R2.out H48.out).mono ?_
        rw [HD.out]
        rintro e w2 ⟨rfl, hb2⟩
        have RW2 := Lib.hid (RW1.out.below hb2)
        have A2 := Lib.hid (A1.out.below HB.out hb2)
        clear hb2
        go_wp2_with fail
        refine (Tryz.strconv_ParseInt_10_at64_ok d DM.out v P.out w2).mono ?_
        rintro e w3 ⟨rfl, hw3⟩
        have hb3 : Below w2.heap.size w2 w3 := by
          rcases hw3 with rfl | ⟨t, rfl⟩
          · exact Below.refl _ _
          · exact Lib.bytesWorld_below _ _ _
        have RW3 := Lib.hid (RW2.out.below hb3)
        have A3 := Lib.hid (A2.out.below HB.out hb3)
        clear hb3 hw3
        go_wp2_with fail
        go_quiet (fail)
        go_wp2
        go_ret2
        exact ⟨rfl, RW3.out.drewN _, A3.out.drewN _⟩
      · rw [hz2] at hgt
        clear hx hz2 hd6
        go_enter Tryz.func78, Tryz.ntmps78
        go_wp2_with fail
        refine (pass_digit b k s w HR.out HL.out).mono ?_
        rw [HJ.out]
        rintro e w1 ⟨rfl, hr1, ha1⟩
        have RW1 := Lib.hid hr1
        have A1 := Lib.hid ha1
        clear hr1 ha1
        go_wp2_with fail
        refine (since_any b j s w1 k R1.out RW1.out R2.out H48.out).mono ?_
        rw [HD.out]
        rintro e w2 ⟨rfl, hb2⟩
        have RW2 := Lib.hid (RW1.out.below hb2)
        have A2 := Lib.hid (A1.out.below HB.out hb2)
        clear hb2
        go_wp2_with fail
        refine (Tryz.strconv_ParseInt_10_at64_ok d DM.out v P.out w2).mono ?_
        rintro e w3 ⟨rfl, hw3⟩
        have hb3 : Below w2.heap.size w2 w3 := by
          rcases hw3 with rfl | ⟨t, rfl⟩
          · exact Below.refl _ _
          · exact Lib.bytesWorld_below _ _ _
        have RW3 := Lib.hid (RW2.out.below hb3)
        have A3 := Lib.hid (A2.out.below HB.out hb3)
        clear hb3 hw3
        go_wp2_with fail
        go_quiet (fail)
        go_wp2
        go_ret2
        exact ⟨rfl, RW3.out.drewN _, A3.out.drewN _⟩
    · clear hd6
      go_enter Tryz.func78, Tryz.ntmps78
      go_wp2_with fail
      refine (pass_digit b k s w HR.out HL.out).mono ?_
      rw [HJ.out]
      rintro e w1 ⟨rfl, hr1, ha1⟩
      have RW1 := Lib.hid hr1
      have A1 := Lib.hid ha1
      clear hr1 ha1
      go_wp2_with fail
      refine (since_any b j s w1 k R1.out RW1.out R2.out H48.out).mono ?_
      rw [HD.out]
      rintro e w2 ⟨rfl, hb2⟩
      have RW2 := Lib.hid (RW1.out.below hb2)
      have A2 := Lib.hid (A1.out.below HB.out hb2)
      clear hb2
      go_wp2_with fail
      refine (Tryz.strconv_ParseInt_10_at64_ok d DM.out v P.out w2).mono ?_
      rintro e w3 ⟨rfl, hw3⟩
      have hb3 : Below w2.heap.size w2 w3 := by
        rcases hw3 with rfl | ⟨t, rfl⟩
        · exact Below.refl _ _
        · exact Lib.bytesWorld_below _ _ _
      have RW3 := Lib.hid (RW2.out.below hb3)
      have A3 := Lib.hid (A2.out.below HB.out hb3)
      clear hb3 hw3
      go_wp2_with fail
      go_quiet (fail)
      go_wp2
      go_ret2
      exact ⟨rfl, RW3.out.drewN _, A3.out.drewN _⟩
  · have P := Lib.hid hp
    have e1 : numV d = Lib.intSat 64 d.data.toList := by simp [numV, hp]
    have e2 : numB d = false := by simp [numB, hp]
    rw [e1, e2]
    clear e1 e2 hp
    · clear hd6
      go_enter Tryz.func78, Tryz.ntmps78
      go_wp2_with fail
      refine (pass_digit b k s w HR.out HL.out).mono ?_
      rw [HJ.out]
      rintro e w1 ⟨rfl, hr1, ha1⟩
      have RW1 := Lib.hid hr1
      have A1 := Lib.hid ha1
      clear hr1 ha1
      go_wp2_with fail
      refine (since_any b j s w1 k R1.out RW1.out R2.out H48.out).mono ?_
      rw [HD.out]
      rintro e w2 ⟨rfl, hb2⟩
      have RW2 := Lib.hid (RW1.out.below hb2)
      have A2 := Lib.hid (A1.out.below HB.out hb2)
      clear hb2
      go_wp2_with fail
      obtain ⟨ev, hv1, hv2⟩ := (V.out.adv A2.out VB.out)
      refine (Tryz.strconv_ParseInt_10_at64_range d D48.out P.out ev w2 hv1 hv2).mono ?_
      rintro e w3 ⟨nb, rfl, hnb, -, hb3⟩
      have HNB := Lib.hid hnb
      clear hv1 hv2 hnb
      have RW3 := Lib.hid (RW2.out.below hb3)
      have A3 := Lib.hid (A2.out.below HB.out hb3)
      clear hb3
      go_wp2_with fail
      go_quiet (fail)
      go_wp2
      go_ret2
      exact ⟨rfl, RW3.out.drewN _, A3.out.drewN _⟩
end
end Go.Proofs.YtlkdicabmikhkaaGreatDoor
