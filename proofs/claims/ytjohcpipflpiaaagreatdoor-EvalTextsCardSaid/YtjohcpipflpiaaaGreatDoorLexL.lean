/- The lexer's answer by what is left of the text. -/
import Derived.Test.YtjohcpipflpiaaaGreatDoorLexI0
namespace Go.Proofs.YtjohcpipflpiaaaGreatDoor
open Go.RowKit
set_option linter.unusedVariables false
set_option linter.unusedSimpArgs false

def hd (l : List UInt8) : Int := match l with | [] => 0 | c :: _ => (c.toNat : Int)
/-- What is left of s at k. -/
def suf (s : ByteArray) (k : Nat) : List UInt8 := s.data.toList.drop k
theorem suf_len (s : ByteArray) (k : Nat) : (suf s k).length = s.size - k := by rw [suf, List.length_drop]; rfl
theorem suf_drop (s : ByteArray) (k n : Nat) : suf s (k + n) = (suf s k).drop n := by simp [suf, List.drop_drop]
theorem pk_hd (s : ByteArray) (k : Nat) : pk s k = hd (suf s k) := by
  unfold pk
  split
  · rename_i h
    have h' : k < s.data.toList.length := h
    rw [suf, List.drop_eq_getElem_cons h']
    rfl
  · rename_i h
    have : suf s k = [] := List.eq_nil_of_length_eq_zero (by rw [suf_len]; omega)
    rw [this]; rfl
theorem ext_take (s : ByteArray) (k n : Nat) : (s.extract k (k + n)) = ⟨((suf s k).take n).toArray⟩ := by
  apply ByteArray.ext
  apply Array.ext'
  simp [ByteArray.data_extract, suf, List.extract_eq_take_drop]
theorem tkB_hd {s : ByteArray} {k : Nat} {c : Int} (hc : c ≠ 0) : tkB s k c = (hd (suf s k) == c) := by
  unfold tkB
  rw [← pk_hd]
  by_cases h : k < s.size
  · simp [h]
  · have : pk s k = 0 := by simp [pk, h]
    rw [this, decide_eq_false h]
    simp
    exact fun e => hc e.symm
theorem runTo_suf (p : Int → Bool) (s : ByteArray) (k : Nat) : runTo p s k = k + runLen p (suf s k) := rfl
theorem runLen_le (p : Int → Bool) (l : List UInt8) : runLen p l ≤ l.length := by
  unfold runLen
  exact (List.takeWhile_sublist _).length_le
def nameN (l : List UInt8) : Nat := if startsB (hd l) then runLen inNameB l else 0
def nameB (l : List UInt8) : Bool := startsB (hd l) && decide (runLen inNameB l ≤ 24)
theorem nameTo_suf (s : ByteArray) (k : Nat) : nameTo s k = k + nameN (suf s k) := by
  unfold nameTo nameN
  rw [pk_hd, runTo_suf]
  split <;> simp
theorem nameOk_suf (s : ByteArray) (k : Nat) : nameOk s k = nameB (suf s k) := by
  unfold nameOk nameB
  rw [pk_hd, runTo_suf]
  congr 1
  exact decide_eq_decide.2 ⟨fun h => by omega, fun h => by omega⟩
def refOkL (l : List UInt8) : Bool := nameB l && (hd (l.drop (nameN l)) == 46) && nameB (l.drop (nameN l + 1))
def refMidL (l : List UInt8) : Nat := if nameB l then (if hd (l.drop (nameN l)) == 46 then nameN l + 1 + nameN (l.drop (nameN l + 1)) else nameN l) else nameN l
def refBL (l : List UInt8) : Bool := refOkL l && (hd (l.drop (refMidL l)) == 125)
theorem refOk_suf (s : ByteArray) (k : Nat) : refOk s k = refOkL (suf s k) := by
  unfold refOk refOkL
  rw [nameOk_suf, nameTo_suf, tkB_hd (by decide), nameOk_suf, suf_drop, Nat.add_assoc, suf_drop]
theorem refMid_suf (s : ByteArray) (k : Nat) : refMid s k = k + refMidL (suf s k) := by
  unfold refMid refMidL
  rw [nameOk_suf, nameTo_suf, tkB_hd (by decide), suf_drop]
  split
  · split
    · rw [nameTo_suf, Nat.add_assoc k, suf_drop]; omega
    · rfl
  · rfl
theorem refB_suf (s : ByteArray) (k : Nat) : refB s k = refBL (suf s k) := by
  unfold refB refBL
  rw [refOk_suf, refMid_suf, tkB_hd (by decide), suf_drop]
theorem refTo_suf {s : ByteArray} {k : Nat} (h : refBL (suf s k) = true) : refTo s k = k + (refMidL (suf s k) + 1) := by
  have h2 := h
  unfold refBL at h2
  simp only [Bool.and_eq_true, beq_iff_eq] at h2
  have h3 : tkB s (refMid s k) 125 = true := by rw [refMid_suf, tkB_hd (by decide), suf_drop]; simpa using h2.2
  unfold refTo
  rw [refOk_suf, if_pos h2.1, tkTo_yes h3, refMid_suf]
  omega
def charOkL (l : List UInt8) : Bool := if hd l == 92 then escOk (hd (l.drop 1)) else decide (32 ≤ hd l)
def charCL (l : List UInt8) : Int := if hd l == 92 then escC (hd (l.drop 1)) else hd l
def charNL (l : List UInt8) : Nat := if hd l == 92 then 2 else 1
theorem charOk_suf (s : ByteArray) (k : Nat) : charOk s k = charOkL (suf s k) := by
  unfold charOk charOkL
  rw [tkB_hd (by decide), pk_hd, pk_hd, suf_drop]
theorem charC_suf (s : ByteArray) (k : Nat) : charC s k = charCL (suf s k) := by
  unfold charC charCL
  rw [tkB_hd (by decide), pk_hd, pk_hd, suf_drop]
theorem charTo_suf {s : ByteArray} {k : Nat} (h : charOkL (suf s k) = true) : charTo s k = k + charNL (suf s k) := by
  have h0 := charOk_suf s k
  rw [h] at h0
  have h1 := charTo_ok h0
  unfold charTo charNL at *
  rw [tkB_hd (by decide)] at *
  split
  · rename_i hb
    rw [if_pos hb] at h1
    unfold rdTo at *
    split at h1
    · rename_i hl
      rw [if_pos hl]
    · exfalso
      unfold charOkL at h
      rw [if_pos hb] at h
      have : hd ((suf s k).drop 1) = 0 := by rw [← suf_drop, ← pk_hd]; simp [pk]; omega
      rw [this] at h
      simp [escOk] at h
  · rename_i hb
    rw [if_neg hb] at h1
    unfold rdTo at *
    split at h1
    · rename_i hl; rw [if_pos hl]
    · omega
def isDol (l : List UInt8) : Bool := hd l == 36 && hd (l.drop 1) == 123
def partsL : Nat → List UInt8 → Nat → List PartL → List UInt8 → Option (List PartL × Nat)
  | 0, _, _, _, _ => none
  | n + 1, l, c, ps, pl =>
    if hd l == 34 then some (withPl ps pl, c + 1)
    else if isDol l then (if refBL (l.drop 2) then partsL n (l.drop (2 + (refMidL (l.drop 2) + 1))) (c + (2 + (refMidL (l.drop 2) + 1))) (withPl ps pl ++ [(true, ⟨((l.drop 2).take (refMidL (l.drop 2))).toArray⟩)]) [] else none)
    else if charOkL l then partsL n (l.drop (charNL l)) (c + charNL l) ps (pl ++ [byteOf (charCL l)]) else none
theorem two_suf (s : ByteArray) (k : Nat) (a b : UInt8) : isAt s ⟨#[a, b]⟩ k = ((suf s k).take 2 == [a, b]) := by
  unfold isAt
  have e : (⟨#[a, b]⟩ : ByteArray).toList = [a, b] := by rw [ByteArray.toList_eq]
  have e2 : (⟨#[a, b]⟩ : ByteArray).size = 2 := rfl
  rw [e, e2, ext_take, ByteArray.toList_eq]
  by_cases h : k + 2 ≤ s.size
  · simp [h]
  · rw [decide_eq_false h]
    have hl : ((suf s k).take 2).length < 2 := by rw [List.length_take, suf_len]; omega
    simp only [Bool.false_and]
    symm
    rw [Bool.eq_false_iff]
    intro hc
    simp only [beq_iff_eq] at hc
    rw [hc] at hl
    simp at hl
theorem isDol_suf (s : ByteArray) (k : Nat) : isAt s dollar k = isDol (suf s k) := by
  rw [show dollar = ⟨#[36, 123]⟩ from rfl, two_suf]
  unfold isDol
  rcases h : suf s k with _ | ⟨x, _ | ⟨y, r⟩⟩
  · rfl
  · simp [hd]
  · simp only [List.take_succ_cons, List.take_zero, hd, List.drop_succ_cons, List.drop_zero]
    have hx : ∀ (u c : UInt8), ((u.toNat : Int) == (c.toNat : Int)) = (u == c) := fun u c => by
      rw [Bool.eq_iff_iff]
      simp only [beq_iff_eq]
      constructor
      · intro e; exact UInt8.toNat_inj.1 (by omega)
      · intro e; subst e; rfl
    show (([x, y] : List UInt8) == [36, 123]) = (((x.toNat : Int) == ((36 : UInt8).toNat : Int)) && ((y.toNat : Int) == ((123 : UInt8).toNat : Int)))
    rw [hx, hx]
    simp [List.cons_beq_cons]
theorem parts_suf (s : ByteArray) (k0 : Nat) : ∀ n k c ps pl, k = k0 + c → partsAt s n k ps pl = (partsL n (suf s k) c ps pl).map fun r => (r.1, k0 + r.2) := by
  intro n
  induction n with
  | zero => intro k c ps pl h; rfl
  | succ n ih =>
    intro k c ps pl h
    rw [partsAt, partsL, tkB_hd (by decide), isDol_suf, refB_suf, charOk_suf, suf_drop]
    split
    · simp; omega
    · split
      · split
        · rename_i hr
          rw [refTo_suf (by rw [suf_drop]; exact hr), refMid_suf, ext_take, suf_drop, ih _ (c + (2 + (refMidL ((suf s k).drop 2) + 1))) _ _ (by omega)]
          rw [show k + 2 + (refMidL ((suf s k).drop 2) + 1) = k + (2 + (refMidL ((suf s k).drop 2) + 1)) by omega, suf_drop]
        · rfl
      · split
        · rename_i hc
          rw [charTo_suf hc, charC_suf, ih _ (c + charNL (suf s k)) _ _ (by omega), suf_drop]
        · rfl
def twoL (l : List UInt8) : Bool := (l.take 2 == [61, 61]) || (l.take 2 == [33, 61]) || (l.take 2 == [60, 61]) || (l.take 2 == [62, 61]) || (l.take 2 == [38, 38]) || (l.take 2 == [124, 124])
theorem twoOk_suf (s : ByteArray) (k : Nat) : twoOk s k = twoL (suf s k) := by
  show (isAt s ⟨#[61, 61]⟩ k || isAt s ⟨#[33, 61]⟩ k || isAt s ⟨#[60, 61]⟩ k || isAt s ⟨#[62, 61]⟩ k || isAt s ⟨#[38, 38]⟩ k || isAt s ⟨#[124, 124]⟩ k) = _
  unfold twoL
  rw [two_suf, two_suf, two_suf, two_suf, two_suf, two_suf]
def signN (l : List UInt8) : Nat := if twoL l then 2 else 1
def tokL (l : List UInt8) : Option (TokL × Nat) :=
  if startsB (hd l) then (if nameB l then some (⟨3, ⟨(l.take (nameN l)).toArray⟩, 0, [], 0⟩, nameN l) else none)
  else if digitB (hd l) then (if numB ⟨(l.take (runLen digitB l)).toArray⟩ then some (⟨1, ⟨#[]⟩, numV ⟨(l.take (runLen digitB l)).toArray⟩, [], 0⟩, runLen digitB l) else none)
  else if hd l = 34 then (partsL (l.length + 1) (l.drop 1) 1 [] []).map fun r => (⟨2, ⟨#[]⟩, 0, r.1, 0⟩, r.2)
  else if twoL l || oneB (hd l) then some (⟨4, ⟨(l.take (signN l)).toArray⟩, 0, [], 0⟩, signN l) else none
def TokL.put (t : TokL) (k : Nat) : TokL := ⟨t.kind, t.text, t.num, t.parts, k⟩
theorem tokAt_suf {s : ByteArray} {k : Nat} (hk : k < s.size) : tokAt s k = (tokL (suf s k)).map fun r => (r.1.put k, k + r.2) := by
  unfold tokAt tokL
  rw [pk_hd, nameOk_suf, nameTo_suf, runTo_suf, ext_take, ext_take]
  split
  · split <;> rfl
  · split
    · split <;> rfl
    · split
      · have e : partsTo s (k + 1) [] [] = partsAt s ((suf s k).length + 1) (k + 1) [] [] := partsAt_more s _ _ _ _ _ (by omega) (by rw [suf_len]; omega)
        rw [e, parts_suf s k _ (k + 1) 1 [] [] rfl, suf_drop]
        cases partsL ((suf s k).length + 1) ((suf s k).drop 1) 1 [] [] <;> rfl
      · unfold signOk signTo
        rw [twoOk_suf, pk_hd]
        have e : (if twoL (suf s k) then k + 2 else rdTo s k) = k + signN (suf s k) := by
          unfold signN rdTo
          rw [if_pos hk]
          split <;> rfl
        rw [e, ext_take]
        split <;> rfl
def skipN : Nat → List UInt8 → Nat
  | 0, _ => 0
  | n + 1, [] => 0
  | n + 1, c :: r => if c = 32 ∨ c = 10 then skipN n r + 1 else if c = 35 then skipN n ((c :: r).drop (runLen inLineB (c :: r))) + runLen inLineB (c :: r) else 0
theorem byte_hd (c : UInt8) (r : List UInt8) (x : UInt8) : hd (c :: r) = (x.toNat : Int) ↔ c = x := by
  show ((c.toNat : Int) = (x.toNat : Int)) ↔ c = x
  constructor
  · intro e; exact UInt8.toNat_inj.1 (by omega)
  · intro e; rw [e]
theorem skipAt_suf (s : ByteArray) : ∀ n k, skipAt s n k = k + skipN n (suf s k) := by
  intro n
  induction n with
  | zero => intro k; rfl
  | succ n ih =>
    intro k
    rw [skipAt]
    by_cases hk : k < s.size
    · rw [if_pos hk, pk_hd]
      have hne : suf s k ≠ [] := fun e => by have := suf_len s k; rw [e] at this; simp at this; omega
      match hs : suf s k with
      | [] => exact absurd hs hne
      | c :: r =>
        have hr : r = suf s (k + 1) := by rw [suf_drop, hs]; rfl
        have e32 := byte_hd c r 32
        have e10 := byte_hd c r 10
        have e35 := byte_hd c r 35
        rw [show ((32 : UInt8).toNat : Int) = 32 from rfl] at e32
        rw [show ((10 : UInt8).toNat : Int) = 10 from rfl] at e10
        rw [show ((35 : UInt8).toNat : Int) = 35 from rfl] at e35
        rw [skipN]
        simp only [e32, e10, e35]
        split
        · rw [ih, ← hr]; omega
        · split
          · rw [runTo_suf, hs, ih, suf_drop, hs]; omega
          · rfl
    · rw [if_neg hk]
      have : suf s k = [] := List.eq_nil_of_length_eq_zero (by rw [suf_len]; omega)
      rw [this]
      rfl
/-- Blanks and remarks ahead. -/
def gapN (l : List UInt8) : Nat := skipN l.length l
theorem skipTo_suf {s : ByteArray} {k : Nat} (hk : k ≤ s.size) : skipTo s k = k + gapN (suf s k) := by
  have h : skipTo s k = skipAt s (suf s k).length k := skipAt_more s _ _ k (by omega) (by rw [suf_len]; omega)
  rw [h, skipAt_suf]
  rfl
def lexL : Nat → List UInt8 → Nat → Option (List TokL)
  | 0, _, _ => some []
  | n + 1, l, k => if l = [] then some [] else (tokL l).bind fun r => (lexL n ((l.drop r.2).drop (gapN (l.drop r.2))) (k + r.2 + gapN (l.drop r.2))).map (r.1.put k :: ·)
theorem lexAt_suf (s : ByteArray) : ∀ n j ts, j ≤ s.size → lexAt s n j ts = (lexL n (suf s j) j).map (ts ++ ·) := by
  intro n
  induction n with
  | zero => intro j ts h; simp [lexAt, lexL]
  | succ n ih =>
    intro j ts h
    rw [lexAt, lexL]
    by_cases hj : j < s.size
    · have hne : suf s j ≠ [] := fun e => by have := suf_len s j; rw [e] at this; simp at this; omega
      rw [if_pos hj, if_neg hne, tokAt_suf hj]
      cases ht : tokL (suf s j) with
      | none => rfl
      | some r =>
        have hk := tokAt_gt hj (t := r.1.put j) (k' := j + r.2) (by rw [tokAt_suf hj, ht]; rfl)
        simp only [Option.map_some, Option.bind_some]
        rw [skipTo_suf hk.2, ih _ _ (by have := skipTo_ok hk.2; rw [skipTo_suf hk.2] at this; exact this.2), suf_drop, suf_drop]
        cases lexL n _ _ <;> simp
    · have : suf s j = [] := List.eq_nil_of_length_eq_zero (by rw [suf_len]; omega)
      rw [if_neg hj, this]
      simp
/-- The tokens of a text by its bytes. -/
def lexAll (l : List UInt8) : Option (List TokL) := lexL l.length (l.drop (gapN l)) (gapN l)
theorem lexTo_all (s : ByteArray) : lexTo s (skipTo s 0) [] = lexAll s.data.toList := by
  have h0 : suf s 0 = s.data.toList := rfl
  have e := skipTo_suf (s := s) (k := 0) (Nat.zero_le _)
  have h := skipTo_ok (s := s) (k := 0) (Nat.zero_le _)
  have hz : s.size = s.data.toList.length := rfl
  unfold lexTo lexAll
  rw [lexAt_suf s _ _ _ h.2, e, suf_drop, h0, hz]
  simp
theorem lexE_all {s : ByteArray} (h : s.size ≤ 6000) : lexE s = match lexAll s.data.toList with | some _ => 0 | none => 5 := by
  unfold lexE
  rw [if_neg (by omega), lexTo_all]
  cases lexAll s.data.toList <;> rfl
theorem lexT_all {s : ByteArray} (h : s.size ≤ 6000) : lexT s = match lexAll s.data.toList with | some ts => ts ++ [⟨0, ⟨#[]⟩, 0, [], s.size⟩] | none => [] := by
  unfold lexT
  rw [if_neg (by omega), lexTo_all]
  cases lexAll s.data.toList <;> rfl
end Go.Proofs.YtjohcpipflpiaaaGreatDoor
