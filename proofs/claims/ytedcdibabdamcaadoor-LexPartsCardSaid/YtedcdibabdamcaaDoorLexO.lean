/- The document's reference, number. -/
import Derived.Test.YtedcdibabdamcaaDoorLexN
namespace Go.Proofs.YtedcdibabdamcaaDoor
open Go.RowKit
set_option linter.unusedVariables false
set_option linter.unusedSimpArgs false

def refN (s : ByteArray) (i : Nat) : Int := if refB s (i + 2) then (refTo s (i + 2) : Int) - i else 0
section
variable (s : ByteArray) (w : World)
set_option maxHeartbeats 2000000 in
set_option maxRecDepth 20000 in
theorem reference_any (i : Nat) (x : Int) (hx : x = i) (hs : s.size ≤ 6000) (hi : i + 2 ≤ s.size) :
    Calls Tryd.prog 49 #[.string s, .int .i64 x] w (Quiet (.int .i64 (refN s i)) w) := by
  subst hx
  have HL := Lib.hid (len_ok hs)
  have RS := Lib.hid (rref_same hi)
  have hrr : rrefB s (i + 2) = (!(nameTo s (i + 2) == i + 2) && tkB s (nameTo s (i + 2)) 46 && !(nameTo s (nameTo s (i + 2) + 1) == nameTo s (i + 2) + 1) && tkB s (nameTo s (nameTo s (i + 2) + 1)) 125 && rdotB (s.extract (i + 2) (nameTo s (nameTo s (i + 2) + 1)))) := rfl
  have RR := Lib.hid hrr
  have RT := Lib.hid (fun h => rref_to (s := s) (k := i + 2) h)
  have a1 := nameTo_le hi
  have a0 := le_nameTo s (i + 2)
  clear hrr
  generalize ha : nameTo s (i + 2) = a at *
  have KA := Lib.hid ha
  have NO : rrefB s (i + 2) = false → refN s i = 0 := fun h => by rw [RS.out] at h; simp [refN, h]
  have NO := Lib.hid NO
  clear ha
  by_cases h1 : a = i + 2
  · have E := Lib.hid (NO.out (by rw [RR.out]; simp [h1]))
    have g1 : ((a : Int) == (i : Int) + 2) = true := by simp; omega
    clear h1
    go_enter Tryd.func49, Tryd.ntmps49
    go_wp2_with fail
    refine (nameEnd_any s _ (i + 2) _ (by rfl) HL.out (by unfold maxLen; omega)).mono ?_
    rw [KA.out]
    rintro e w1 ⟨rfl, n, rfl⟩
    go_wp2_with fail
    go_ret
    exact ⟨by rw [E.out]; rfl, n, rfl⟩
  have g1 : ((a : Int) == (i : Int) + 2) = false := by simp; omega
  cases h2 : tkB s a 46
  · have E := Lib.hid (NO.out (by rw [RR.out, h2]; simp))
    by_cases hl : a < s.size
    · have hp := pk_in hl
      have hd : decide (s.size ≤ a) = false := by simp; omega
      have g2 : ((s[a].toNat : Int) != 46) = true := by
        rw [← hp]; simp [tkB, hl] at h2; simpa using h2
      clear h2 hp
      go_enter Tryd.func49, Tryd.ntmps49
      go_wp2_with fail
      refine (nameEnd_any s _ (i + 2) _ (by rfl) HL.out (by unfold maxLen; omega)).mono ?_
      rw [KA.out]
      rintro e w1 ⟨rfl, n, rfl⟩
      go_wp2_with fail
      go_ret
      exact ⟨by rw [E.out]; rfl, n, rfl⟩
    · have hd : decide (s.size ≤ a) = true := by simp; omega
      clear h2
      go_enter Tryd.func49, Tryd.ntmps49
      go_wp2_with fail
      refine (nameEnd_any s _ (i + 2) _ (by rfl) HL.out (by unfold maxLen; omega)).mono ?_
      rw [KA.out]
      rintro e w1 ⟨rfl, n, rfl⟩
      go_wp2_with fail
      go_ret
      exact ⟨by rw [E.out]; rfl, n, rfl⟩
  have hl := tkB_lt h2
  have hp := pk_in hl
  have hd : decide (s.size ≤ a) = false := by simp; omega
  have g2 : ((s[a].toNat : Int) != 46) = false := by
    rw [← hp]; simp [tkB] at h2; simpa using h2.2
  have H2 := Lib.hid h2
  clear h2 hp
  have b1 := nameTo_le (s := s) (k := a + 1) hl
  have b0 := le_nameTo s (a + 1)
  generalize hb : nameTo s (a + 1) = b at *
  have KB := Lib.hid hb
  clear hb
  by_cases h3 : b = a + 1
  · have E := Lib.hid (NO.out (by rw [RR.out]; simp [h3]))
    have g3 : ((b : Int) == (a : Int) + 1) = true := by simp; omega
    clear h3
    go_enter Tryd.func49, Tryd.ntmps49
    go_wp2_with fail
    refine (nameEnd_any s _ (i + 2) _ (by rfl) HL.out (by unfold maxLen; omega)).mono ?_
    rw [KA.out]
    rintro e w1 ⟨rfl, n, rfl⟩
    go_wp2_with fail
    refine (nameEnd_any s _ (a + 1) _ (by rfl) HL.out (by unfold maxLen; omega)).mono ?_
    rw [KB.out]
    rintro e w2 ⟨rfl, n2, rfl⟩
    go_wp2_with fail
    go_ret
    exact ⟨by rw [E.out]; rfl, _, rfl⟩
  have g3 : ((b : Int) == (a : Int) + 1) = false := by simp; omega
  cases h4 : tkB s b 125
  · have E := Lib.hid (NO.out (by rw [RR.out, h4]; simp))
    by_cases hlb : b < s.size
    · have hpb := pk_in hlb
      have hdb : decide (s.size ≤ b) = false := by simp; omega
      have g4 : ((s[b].toNat : Int) != 125) = true := by
        rw [← hpb]; simp [tkB, hlb] at h4; simpa using h4
      clear h4 hpb
      go_enter Tryd.func49, Tryd.ntmps49
      go_wp2_with fail
      refine (nameEnd_any s _ (i + 2) _ (by rfl) HL.out (by unfold maxLen; omega)).mono ?_
      rw [KA.out]
      rintro e w1 ⟨rfl, n, rfl⟩
      go_wp2_with fail
      refine (nameEnd_any s _ (a + 1) _ (by rfl) HL.out (by unfold maxLen; omega)).mono ?_
      rw [KB.out]
      rintro e w2 ⟨rfl, n2, rfl⟩
      go_wp2_with fail
      go_ret
      exact ⟨by rw [E.out]; rfl, _, rfl⟩
    · have hdb : decide (s.size ≤ b) = true := by simp; omega
      clear h4
      go_enter Tryd.func49, Tryd.ntmps49
      go_wp2_with fail
      refine (nameEnd_any s _ (i + 2) _ (by rfl) HL.out (by unfold maxLen; omega)).mono ?_
      rw [KA.out]
      rintro e w1 ⟨rfl, n, rfl⟩
      go_wp2_with fail
      refine (nameEnd_any s _ (a + 1) _ (by rfl) HL.out (by unfold maxLen; omega)).mono ?_
      rw [KB.out]
      rintro e w2 ⟨rfl, n2, rfl⟩
      go_wp2_with fail
      go_ret
      exact ⟨by rw [E.out]; rfl, _, rfl⟩
  have hlb := tkB_lt h4
  have hpb := pk_in hlb
  have hdb : decide (s.size ≤ b) = false := by simp; omega
  have g4 : ((s[b].toNat : Int) != 125) = false := by
    rw [← hpb]; simp [tkB] at h4; simpa using h4.2
  have RD : rrefB s (i + 2) = rdotB (s.extract (i + 2) b) := by rw [RR.out, H2.out, h4]; simp [h1, h3]
  have SX := Lib.hid (show (s.extract (i + 2) b).size ≤ maxLen by rw [size_extract' b1]; unfold maxLen; omega)
  cases h5 : rdotB (s.extract (i + 2) b)
  · have E := Lib.hid (NO.out (RD.trans h5))
    have H5 := Lib.hid h5
    clear RD h5 h4 hpb
    go_enter Tryd.func49, Tryd.ntmps49
    go_wp2_with fail
    refine (nameEnd_any s _ (i + 2) _ (by rfl) HL.out (by unfold maxLen; omega)).mono ?_
    rw [KA.out]
    rintro e w1 ⟨rfl, n, rfl⟩
    go_wp2_with fail
    refine (nameEnd_any s _ (a + 1) _ (by rfl) HL.out (by unfold maxLen; omega)).mono ?_
    rw [KB.out]
    rintro e w2 ⟨rfl, n2, rfl⟩
    go_wp2_with fail
    refine (rdot_any (s.extract (i + 2) b) _ SX.out).mono ?_
    rw [H5.out]
    rintro e w3 ⟨rfl, n3, rfl⟩
    go_wp2_with fail
    go_ret
    exact ⟨by rw [E.out]; rfl, _, rfl⟩
  · have hR : refB s (i + 2) = true := RS.out.symm.trans (RD.trans h5)
    have E := Lib.hid (show refN s i = (b : Int) + 1 - i by
      have := (RT.out hR).1
      simp [refN, hR, this])
    have H5 := Lib.hid h5
    clear RD h5 h4 hpb hR
    go_enter Tryd.func49, Tryd.ntmps49
    go_wp2_with fail
    refine (nameEnd_any s _ (i + 2) _ (by rfl) HL.out (by unfold maxLen; omega)).mono ?_
    rw [KA.out]
    rintro e w1 ⟨rfl, n, rfl⟩
    go_wp2_with fail
    refine (nameEnd_any s _ (a + 1) _ (by rfl) HL.out (by unfold maxLen; omega)).mono ?_
    rw [KB.out]
    rintro e w2 ⟨rfl, n2, rfl⟩
    go_wp2_with fail
    refine (rdot_any (s.extract (i + 2) b) _ SX.out).mono ?_
    rw [H5.out]
    rintro e w3 ⟨rfl, n3, rfl⟩
    go_wp2_with fail
    go_ret
    exact ⟨by rw [E.out]; rfl, _, rfl⟩
end

/-! ### numbers -/
def digs (s : ByteArray) (k : Nat) : List UInt8 := (s.data.toList.drop k).takeWhile fun c => digitB c.toNat
theorem digs_step {s : ByteArray} {k : Nat} (hk : k < s.size) (hp : digitB (pk s k) = true) : digs s k = s[k] :: digs s (k + 1) := by
  have hl : k < s.data.toList.length := by simpa using hk
  have e : s.data.toList[k] = s[k] := rfl
  rw [pk_in hk] at hp
  unfold digs
  rw [List.drop_eq_getElem_cons hl, List.takeWhile_cons, e]
  simp [hp]
theorem digs_stop {s : ByteArray} {k : Nat} (hp : k < s.size → digitB (pk s k) = false) : digs s k = [] := by
  unfold digs
  by_cases hk : k < s.size
  · have hl : k < s.data.toList.length := by simpa using hk
    have e : s.data.toList[k] = s[k] := rfl
    have hp := hp hk
    rw [pk_in hk] at hp
    rw [List.drop_eq_getElem_cons hl, List.takeWhile_cons, e]
    simp [hp]
  · have hl : s.data.toList.length ≤ k := by simp; omega
    rw [List.drop_eq_nil_of_le hl]; simp
/-- What the document's loop makes of the digits that are left. -/
def gol : Bool → Nat → List UInt8 → Option Nat
  | _, n, [] => some n
  | f, n, c :: r => if 9223372036854775807 < 10 * n + (c.toNat - 48) then none else if f = false ∧ n = 0 then none else gol false (10 * n + (c.toNat - 48)) r
theorem parseUintM_ge (M : Nat) : ∀ (l : List UInt8) (acc u : Nat), Lib.parseUintM M acc l = .ok u → acc ≤ u := by
  intro l
  induction l with
  | nil => intro acc u h; simp [Lib.parseUintM] at h; omega
  | cons c r ih =>
    intro acc u h
    rw [Lib.parseUintM] at h
    split at h
    · split at h
      · simp at h
      · split at h
        · simp at h
        · have := ih _ _ h; omega
    · simp at h
theorem gol_same : ∀ (l : List UInt8) (acc : Nat), AllDig l → 0 < acc → acc ≤ 9223372036854775807 →
    gol false acc l = match Lib.parseUintM (2 ^ 64 - 1) acc l with | .ok u => if u ≤ 9223372036854775807 then some u else none | _ => none := by
  intro l
  induction l with
  | nil => intro acc _ _ h; simp [gol, Lib.parseUintM, h]
  | cons c r ih =>
    intro acc hd h0 h1
    have hc := hd c (by simp)
    have hr : AllDig r := fun x hx => hd x (by simp [hx])
    rw [gol, Lib.parseUintM, if_pos hc]
    have hn : ¬ (false = false ∧ acc = 0) := by omega
    rw [if_neg hn]
    by_cases hb : 9223372036854775807 < 10 * acc + (c.toNat - 48)
    · rw [if_pos hb]
      by_cases hA : 1844674407370955162 ≤ acc
      · rw [if_pos hA]
      · rw [if_neg hA]
        by_cases hB : 2 ^ 64 - 1 < acc * 10 + (c.toNat - 48)
        · rw [if_pos hB]
        · rw [if_neg hB]
          have hg := parseUintM_ge (2 ^ 64 - 1) r (acc * 10 + (c.toNat - 48))
          rcases parseUintM_dig (2 ^ 64 - 1) r (acc * 10 + (c.toNat - 48)) hr with ⟨u, hu⟩ | hu
          · have := hg u hu
            rw [hu]
            simp
            omega
          · rw [hu]
    · rw [if_neg hb, if_neg (by omega), if_neg (by omega), ih _ hr (by omega) (by omega), show acc * 10 + (c.toNat - 48) = 10 * acc + (c.toNat - 48) by omega]
theorem gol_num {d : ByteArray} (hd : AllDig d.data.toList) (hne : 0 < d.size) : (gol true 0 d.data.toList).map (fun n : Nat => (n : Int)) = if numB d then some (numV d) else none := by
  have hpk := pk_in hne
  have he : d.data.toList.head? = some d[0] := by
    have hl : 0 < d.data.toList.length := by simpa using hne
    rw [List.head?_eq_getElem?, List.getElem?_eq_getElem hl]; rfl
  have ht : d.toList = d.data.toList := ByteArray.toList_eq d
  unfold numB numV
  rw [ht, hpk]
  generalize d.data.toList = l at *
  generalize d[0] = c0 at *
  match l, he with
  | c :: r, he =>
    simp at he; subst he
    have hc := hd c (by simp)
    have hr : AllDig r := fun x hx => hd x (by simp [hx])
    have hs : ¬ (c.toNat = 43 ∨ c.toNat = 45) := by omega
    have hs2 : ¬ c.toNat = 45 := by omega
    have hp : Lib.parseIntB 64 (c :: r) = match Lib.parseUintM (2 ^ 64 - 1) (c.toNat - 48) r with | .ok u => (if u ≤ 9223372036854775807 then .ok (u : Int) else .range) | _ => .range := by
      unfold Lib.parseIntB Lib.parseUintB
      simp only [if_neg hs]
      rw [if_neg (by simp), Lib.parseUintM, if_pos hc, if_neg (by omega), if_neg (by omega)]
      simp only [Nat.zero_mul, Nat.zero_add]
      rcases parseUintM_dig (2 ^ 64 - 1) r (c.toNat - 48) hr with ⟨u, hu⟩ | hu
      · rw [hu]
        simp only [hs2, not_false_eq_true, true_and, false_and, if_false]
        by_cases h : u ≤ 9223372036854775807
        · rw [if_neg (by omega), if_pos h]
        · rw [if_pos (by omega), if_neg h]
      · rw [hu]
    rw [gol, if_neg (by omega), if_neg (by simp), hp]
    simp only [Nat.mul_zero, Nat.zero_add]
    by_cases h0 : c.toNat = 48
    · rw [show c.toNat - 48 = 0 by omega]
      have hc48 : c = 48 := UInt8.toNat_inj.1 (by simpa using h0)
      cases r with
      | nil => simp [gol, Lib.parseUintM, hc48]
      | cons c2 r2 =>
        have hc2 := hr c2 (by simp)
        rw [gol, if_neg (by omega), if_pos ⟨rfl, rfl⟩]
        rcases parseUintM_dig (2 ^ 64 - 1) (c2 :: r2) 0 hr with ⟨u, hu⟩ | hu
        · rw [hu]
          by_cases h : u ≤ 9223372036854775807
          · simp [h, h0, hc48]
          · simp [h]
        · rw [hu]; simp
    · rw [gol_same r (c.toNat - 48) hr (by omega) (by omega)]
      rcases parseUintM_dig (2 ^ 64 - 1) r (c.toNat - 48) hr with ⟨u, hu⟩ | hu
      · rw [hu]
        by_cases h : u ≤ 9223372036854775807
        · have h2 : ((c.toNat : Int) != 48) = true := by simp; omega
          simp [h, h2]
        · simp [h]
      · rw [hu]; simp
end Go.Proofs.YtedcdibabdamcaaDoor
