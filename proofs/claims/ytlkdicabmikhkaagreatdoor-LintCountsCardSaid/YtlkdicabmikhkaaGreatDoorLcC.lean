/- The blocks of the law of counted names; what is told of them. -/
import Derived.Test.YtlkdicabmikhkaaGreatDoorLcB
import Derived.Test.YtlkdicabmikhkaaGreatDoorLiLa
namespace Go.Proofs.YtlkdicabmikhkaaGreatDoor
open Go.RowKit Go.Sort
set_option linter.unusedVariables false
set_option linter.unusedSimpArgs false
def nm (c : UInt8) (i : Nat) : ByteArray := ⟨#[c]⟩ ++ ⟨(Lib.decDigits i).toArray⟩
def digTab : List (List UInt8) := [[48], [49], [50], [51], [52], [53], [54], [55]]
theorem dig_tab : (List.range 8).map Lib.decDigits = digTab := by kernel_rfl
theorem dig_at {i : Nat} (h : i < 8) : digTab[i]? = some (Lib.decDigits i) := by
  rw [← dig_tab, List.getElem?_map, List.getElem?_range h]; rfl
theorem dig_inj0 : ∀ i : Fin 8, ∀ j : Fin 8, digTab[i.1]? = digTab[j.1]? → i = j := by decide
theorem dig_inj {i j : Nat} (hi : i < 8) (hj : j < 8) (h : Lib.decDigits i = Lib.decDigits j) : i = j := by
  have := dig_inj0 ⟨i, hi⟩ ⟨j, hj⟩ (by rw [dig_at hi, dig_at hj, h])
  simpa using this
theorem nm_data (c : UInt8) (i : Nat) : (nm c i).data.toList = c :: Lib.decDigits i := by
  unfold nm
  rw [ByteArray.data_append]
  simp
theorem nm_inj {c d : UInt8} {i j : Nat} (hi : i < 8) (hj : j < 8) (h : nm c i = nm d j) : c = d ∧ i = j := by
  have := congrArg (fun x => x.data.toList) h
  simp only [nm_data, List.cons.injEq] at this
  exact ⟨this.1, dig_inj hi hj this.2⟩
theorem app_inj {a x y : ByteArray} (h : a ++ x = a ++ y) : x = y := by
  have := congrArg (fun x => x.data.toList) h
  simp only [ByteArray.data_append, Array.toList_append, List.append_cancel_left_eq] at this
  exact data_inj this
theorem var_loc (x y : ByteArray) : sVar ++ x ≠ sLoc ++ y := fun h => by
  have := congrArg (fun x => x.data.toList) h
  simp [ByteArray.data_append, sVar, sLoc] at this
theorem nm_size {c : UInt8} {i : Nat} (h : i ≤ 100) : (nm c i).size ≤ 4 := by
  have := dec_len 3 i (by omega) (by omega)
  unfold nm
  rw [ByteArray.size_append]
  show 1 + (Lib.decDigits i).toArray.size ≤ 4
  simp; omega
def sType : ByteArray := ⟨#[116, 121, 112, 101]⟩
def strP (s : ByteArray) : List NodeL := [⟨2, 0, ⟨#[]⟩, [(false, s)], []⟩]
def refN (s : ByteArray) : List NodeL := [⟨4, 0, s, [], []⟩]
def strR (s : ByteArray) : List NodeL := [⟨2, 0, ⟨#[]⟩, [(false, ⟨#[120]⟩), (true, s)], []⟩]
def num0 : List NodeL := [⟨1, 0, ⟨#[]⟩, [], []⟩]
def vB (i : Nat) : BlkL := .mk 1 (nm 118 i) [(sType, strP ⟨#[105, 110, 116]⟩)] []
def nA (i : Nat) : ByteArray × List NodeL := (⟨#[97]⟩ ++ nm 118 i, refN (sVar ++ nm 118 i))
def mA (i : Nat) : ByteArray × List NodeL := (⟨#[97]⟩ ++ nm 108 i, strR (sLoc ++ nm 108 i))
def tA (i : Nat) : ByteArray × List NodeL := (nm 108 i, num0)
def nB (al : List (ByteArray × List NodeL)) : BlkL := .mk 3 ⟨#[110]⟩ al []
def lB (al : List (ByteArray × List NodeL)) : BlkL := .mk 2 ⟨#[]⟩ al []
def xB : BlkL := .mk 3 ⟨#[120]⟩ [] []
def dB (i : Nat) : BlkL := .mk 5 (nm 100 i) [] [xB]
def uB (i : Nat) : BlkL := .mk 4 ⟨#[109]⟩ [(sUse, strP (nm 100 i))] []
def onL {α : Type} (xs : List Bool) (f : Nat → α) (n : Nat) : List α := (List.range n).flatMap fun i => if xs.getD i false then [f i] else []
def offL {α : Type} (xs : List Bool) (f : Nat → α) (n : Nat) : List α := (List.range n).flatMap fun i => if xs.getD i false then [] else [f i]
def dsL (ds : List Bool) (n : Nat) : List BlkL := (List.range n).flatMap fun i => dB i :: if ds.getD i false then [uB i] else []
def attN (vs ls : List Bool) : List (ByteArray × List NodeL) := onL vs nA vs.length ++ onL ls mA ls.length
def allB (vs ls ds : List Bool) : List BlkL := (List.range vs.length).map vB ++ [nB (attN vs ls), lB ((List.range ls.length).map tA)] ++ dsL ds ds.length
def wantW (vs ls ds : List Bool) : List (Int × ByteArray) := offL vs (fun i => ((1 : Int), nm 118 i)) vs.length ++ offL ls (fun i => ((2 : Int), nm 108 i)) ls.length ++ offL ds (fun i => ((3 : Int), nm 100 i)) ds.length
theorem onL_mem {α : Type} {xs : List Bool} {f : Nat → α} {n : Nat} {a : α} : a ∈ onL xs f n ↔ ∃ i, i < n ∧ xs.getD i false = true ∧ a = f i := by
  unfold onL
  rw [List.mem_flatMap]
  constructor
  · rintro ⟨i, hi, h⟩
    cases hx : xs.getD i false <;> rw [hx] at h
    · simp at h
    · exact ⟨i, List.mem_range.1 hi, hx, by simpa using h⟩
  · rintro ⟨i, hi, hx, rfl⟩
    exact ⟨i, List.mem_range.2 hi, by rw [hx]; simp⟩
theorem onL_len {α : Type} (xs : List Bool) (f : Nat → α) (n : Nat) : (onL xs f n).length ≤ n := by
  have := flat_few (fun i => if xs.getD i false then [f i] else []) 1 (fun i => by split <;> simp) (List.range n)
  unfold onL
  simpa using this
theorem dsL_mem {ds : List Bool} {n : Nat} {b : BlkL} : b ∈ dsL ds n ↔ ∃ i, i < n ∧ (b = dB i ∨ ds.getD i false = true ∧ b = uB i) := by
  unfold dsL
  rw [List.mem_flatMap]
  constructor
  · rintro ⟨i, hi, h⟩
    refine ⟨i, List.mem_range.1 hi, ?_⟩
    cases hx : ds.getD i false <;> rw [hx] at h
    · exact .inl (by simpa using h)
    · have : b = dB i ∨ b = uB i := by simpa using h
      rcases this with h | h
      · exact .inl h
      · exact .inr ⟨rfl, h⟩
  · rintro ⟨i, hi, h⟩
    refine ⟨i, List.mem_range.2 hi, ?_⟩
    rcases h with rfl | ⟨h1, rfl⟩
    · simp
    · rw [h1]; simp
theorem dsL_len (ds : List Bool) (n : Nat) : (dsL ds n).length ≤ n * 2 := by
  have := flat_few (fun i => dB i :: if ds.getD i false then [uB i] else []) 2 (fun i => by split <;> simp) (List.range n)
  unfold dsL
  simpa using this
/-- A block of the law is one of these. -/
theorem allB_mem {vs ls ds : List Bool} {b : BlkL} : b ∈ allB vs ls ds ↔ (∃ i, i < vs.length ∧ b = vB i) ∨ b = nB (attN vs ls) ∨ b = lB ((List.range ls.length).map tA) ∨ (∃ i, i < ds.length ∧ (b = dB i ∨ ds.getD i false = true ∧ b = uB i)) := by
  unfold allB
  rw [List.mem_append, List.mem_append, dsL_mem, List.mem_map]
  simp only [List.mem_range, List.mem_cons, List.not_mem_nil, or_false]
  constructor
  · rintro ((⟨i, hi, rfl⟩ | h | h) | h)
    · exact .inl ⟨i, hi, rfl⟩
    · exact .inr (.inl h)
    · exact .inr (.inr (.inl h))
    · exact .inr (.inr (.inr h))
  · rintro (⟨i, hi, rfl⟩ | h | h | h)
    · exact .inl (.inl ⟨i, hi, rfl⟩)
    · exact .inl (.inr (.inl h))
    · exact .inl (.inr (.inr h))
    · exact .inr h
theorem attN_mem {vs ls : List Bool} {a : ByteArray × List NodeL} : a ∈ attN vs ls ↔ (∃ i, i < vs.length ∧ vs.getD i false = true ∧ a = nA i) ∨ (∃ i, i < ls.length ∧ ls.getD i false = true ∧ a = mA i) := by
  unfold attN
  rw [List.mem_append, onL_mem, onL_mem]
theorem raw_ref (s : ByteArray) : rawG (refN s) = [s] := by simp [rawG, refN, ownRef, partRefs]
theorem raw_strR (s : ByteArray) : rawG (strR s) = [s] := by simp [rawG, strR, ownRef, partRefs]
theorem raw_strP (s : ByteArray) : rawG (strP s) = [] := by simp [rawG, strP, ownRef, partRefs]
theorem raw_num : rawG num0 = [] := by simp [rawG, num0, ownRef, partRefs]
theorem refsA_mem {al : List (ByteArray × List NodeL)} {x : ByteArray} : x ∈ refsA al ↔ ∃ a ∈ al, x ∈ rawG a.2 := by
  unfold refsA
  rw [List.mem_flatMap]
  exact ⟨fun ⟨a, h1, h2⟩ => ⟨a, h1, refsG_mem.1 h2⟩, fun ⟨a, h1, h2⟩ => ⟨a, h1, refsG_mem.2 h2⟩⟩
theorem refsAll_mem {vs ls ds : List Bool} {x : ByteArray} : x ∈ refsL (allB vs ls ds) ↔ (∃ i, i < vs.length ∧ vs.getD i false = true ∧ x = sVar ++ nm 118 i) ∨ (∃ i, i < ls.length ∧ ls.getD i false = true ∧ x = sLoc ++ nm 108 i) := by
  unfold refsL
  rw [List.mem_flatMap]
  constructor
  · rintro ⟨b, hb, hx⟩
    rcases allB_mem.1 hb with ⟨i, hi, rfl⟩ | rfl | rfl | ⟨i, hi, rfl | ⟨-, rfl⟩⟩
    · unfold refsB at hx; rw [if_pos (show (vB i).kind = 1 from rfl)] at hx; cases hx
    · unfold refsB at hx
      rw [if_neg (by show ¬ (3 : Int) = 1; decide)] at hx
      obtain ⟨a, ha, hr⟩ := refsA_mem.1 hx
      rcases attN_mem.1 ha with ⟨i, hi, h1, rfl⟩ | ⟨i, hi, h1, rfl⟩
      · exact .inl ⟨i, hi, h1, by rw [show (nA i).2 = refN (sVar ++ nm 118 i) from rfl, raw_ref] at hr; simpa using hr⟩
      · exact .inr ⟨i, hi, h1, by rw [show (mA i).2 = strR (sLoc ++ nm 108 i) from rfl, raw_strR] at hr; simpa using hr⟩
    · unfold refsB at hx
      rw [if_neg (by show ¬ (2 : Int) = 1; decide)] at hx
      obtain ⟨a, ha, hr⟩ := refsA_mem.1 hx
      obtain ⟨i, -, rfl⟩ := List.mem_map.1 (show a ∈ (List.range ls.length).map tA from ha)
      rw [show (tA i).2 = num0 from rfl, raw_num] at hr
      cases hr
    · unfold refsB at hx
      rw [if_neg (by show ¬ (5 : Int) = 1; decide)] at hx
      cases hx
    · unfold refsB at hx
      rw [if_neg (by show ¬ (4 : Int) = 1; decide)] at hx
      obtain ⟨a, ha, hr⟩ := refsA_mem.1 hx
      obtain rfl : a = (sUse, strP (nm 100 i)) := by simpa [uB, BlkL.attrs] using ha
      rw [raw_strP] at hr
      cases hr
  · intro h
    refine ⟨nB (attN vs ls), allB_mem.2 (.inr (.inl rfl)), ?_⟩
    unfold refsB
    rw [if_neg (by show ¬ (3 : Int) = 1; decide)]
    rcases h with ⟨i, hi, h1, rfl⟩ | ⟨i, hi, h1, rfl⟩
    · exact refsA_mem.2 ⟨nA i, attN_mem.2 (.inl ⟨i, hi, h1, rfl⟩), by rw [show (nA i).2 = refN (sVar ++ nm 118 i) from rfl, raw_ref]; simp⟩
    · exact refsA_mem.2 ⟨mA i, attN_mem.2 (.inr ⟨i, hi, h1, rfl⟩), by rw [show (mA i).2 = strR (sLoc ++ nm 108 i) from rfl, raw_strR]; simp⟩
theorem used_var {vs ls ds : List Bool} (hv : vs.length ≤ 8) {i : Nat} (hi : i < vs.length) : usedB (namesU (refsL (allB vs ls ds))) (sVar ++ nm 118 i) = vs.getD i false := by
  rw [Bool.eq_iff_iff, used_names, refsAll_mem]
  constructor
  · rintro (⟨j, hj, h, e⟩ | ⟨j, hj, h, e⟩)
    · obtain ⟨-, rfl⟩ := nm_inj (by omega) (by omega) (app_inj e)
      exact h
    · exact absurd e (var_loc _ _)
  · intro h; exact .inl ⟨i, hi, h, rfl⟩
theorem used_loc {vs ls ds : List Bool} (hl : ls.length ≤ 8) {i : Nat} (hi : i < ls.length) : usedB (namesU (refsL (allB vs ls ds))) (sLoc ++ nm 108 i) = ls.getD i false := by
  rw [Bool.eq_iff_iff, used_names, refsAll_mem]
  constructor
  · rintro (⟨j, hj, h, e⟩ | ⟨j, hj, h, e⟩)
    · exact absurd e.symm (var_loc _ _)
    · obtain ⟨-, rfl⟩ := nm_inj (by omega) (by omega) (app_inj e)
      exact h
  · intro h; exact .inr ⟨i, hi, h, rfl⟩
theorem flat_congr {α β : Type} {f g : α → List β} {l : List α} (h : ∀ a ∈ l, f a = g a) : l.flatMap f = l.flatMap g := by
  induction l with
  | nil => rfl
  | cons a l ih => rw [List.flatMap_cons, List.flatMap_cons, h a List.mem_cons_self, ih fun a ha => h a (List.mem_cons_of_mem _ ha)]
theorem flat_none {α β : Type} {f : α → List β} {l : List α} (h : ∀ a ∈ l, f a = []) : l.flatMap f = [] := List.flatMap_eq_nil_iff.2 h
theorem nil_app (x : ByteArray) : (⟨#[]⟩ : ByteArray) ++ x = x := data_inj (by rw [ByteArray.data_append]; simp)
theorem scope_all {vs ls ds : List Bool} (hv : vs.length ≤ 8) (hl : ls.length ≤ 8) : scopeW ⟨#[]⟩ (allB vs ls ds) = offL vs (fun i => ((1 : Int), nm 118 i)) vs.length ++ offL ls (fun i => ((2 : Int), nm 108 i)) ls.length := by
  unfold scopeW
  congr 1
  · unfold varsW
    generalize hns : namesU (refsL (allB vs ls ds)) = ns
    have hu : ∀ i, i < vs.length → usedB ns (sVar ++ nm 118 i) = vs.getD i false := fun i hi => by rw [← hns]; exact used_var hv hi
    unfold allB
    rw [List.flatMap_append, List.flatMap_append, List.flatMap_map, flat_none (l := dsL ds ds.length) fun b hb => ?_, List.append_nil]
    · have h2 : [nB (attN vs ls), lB ((List.range ls.length).map tA)].flatMap (varW ns ⟨#[]⟩) = [] := flat_none fun b hb => by
        have hb : b = nB (attN vs ls) ∨ b = lB ((List.range ls.length).map tA) := by simpa using hb
        unfold varW
        rcases hb with rfl | rfl
        · rw [if_neg fun h => absurd h.1 (by show ¬ (3 : Int) = 1; decide)]
        · rw [if_neg fun h => absurd h.1 (by show ¬ (2 : Int) = 1; decide)]
      rw [h2, List.append_nil]
      unfold offL
      refine flat_congr fun i hi => ?_
      have hi := List.mem_range.1 hi
      unfold varW
      rw [show (vB i).label = nm 118 i from rfl, hu i hi, nil_app]
      cases vs.getD i false
      · rw [if_pos ⟨rfl, rfl⟩]; simp
      · rw [if_neg fun h => by cases h.2]; simp
    · obtain ⟨i, -, rfl | ⟨-, rfl⟩⟩ := dsL_mem.1 hb <;> unfold varW
      · rw [if_neg fun h => absurd h.1 (by show ¬ (5 : Int) = 1; decide)]
      · rw [if_neg fun h => absurd h.1 (by show ¬ (4 : Int) = 1; decide)]
  · unfold locsW
    generalize hns : namesU (refsL (allB vs ls ds)) = ns
    have hu : ∀ i, i < ls.length → usedB ns (sLoc ++ nm 108 i) = ls.getD i false := fun i hi => by rw [← hns]; exact used_loc hl hi
    unfold allB
    rw [List.flatMap_append, List.flatMap_append, flat_none (l := (List.range vs.length).map vB) fun b hb => ?_, flat_none (l := dsL ds ds.length) fun b hb => ?_, List.append_nil, List.nil_append]
    · show locB1 ns ⟨#[]⟩ (nB (attN vs ls)) ++ (locB1 ns ⟨#[]⟩ (lB ((List.range ls.length).map tA)) ++ []) = _
      rw [show locB1 ns ⟨#[]⟩ (nB (attN vs ls)) = [] by unfold locB1; rw [if_neg (by show ¬ (3 : Int) = 2; decide)], List.nil_append, List.append_nil]
      unfold locB1
      rw [if_pos (show (lB ((List.range ls.length).map tA)).kind = 2 from rfl)]
      show ((List.range ls.length).map tA).flatMap (locW ns ⟨#[]⟩) = _
      rw [List.flatMap_map]
      unfold offL
      refine flat_congr fun i hi => ?_
      have hi := List.mem_range.1 hi
      unfold locW
      rw [show (tA i).1 = nm 108 i from rfl, hu i hi, nil_app]
      cases ls.getD i false <;> simp
    · obtain ⟨i, -, rfl | ⟨-, rfl⟩⟩ := dsL_mem.1 hb <;> unfold locB1
      · rw [if_neg (by show ¬ (5 : Int) = 2; decide)]
      · rw [if_neg (by show ¬ (4 : Int) = 2; decide)]
    · obtain ⟨i, -, rfl⟩ := List.mem_map.1 hb
      unfold locB1
      rw [if_neg (by show ¬ (1 : Int) = 2; decide)]
end Go.Proofs.YtlkdicabmikhkaaGreatDoor
