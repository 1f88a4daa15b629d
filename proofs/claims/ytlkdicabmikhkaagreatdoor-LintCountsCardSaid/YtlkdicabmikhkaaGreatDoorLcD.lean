/- The blocks of the law of counted names: what Warns tells of them; that they may be. -/
import Derived.Test.YtlkdicabmikhkaaGreatDoorLcC
namespace Go.Proofs.YtlkdicabmikhkaaGreatDoor
open Go.RowKit Go.Sort
set_option linter.unusedVariables false
set_option linter.unusedSimpArgs false
theorem usesD1_x : usesD 1 [xB] = [] := by
  show usesB (usesD 0) xB ++ [] = []
  unfold usesB
  rw [if_neg (show ¬ xB.kind = 4 by show ¬ (3 : Int) = 4; decide)]
  rfl
theorem uses_all {vs ls ds : List Bool} : usesD 2 (allB vs ls ds) = onL ds (fun i => strP (nm 100 i)) ds.length := by
  show (allB vs ls ds).flatMap (usesB (usesD 1)) = _
  unfold allB
  rw [List.flatMap_append, List.flatMap_append, flat_none (l := (List.range vs.length).map vB) fun b hb => ?_, List.nil_append]
  · have h2 : [nB (attN vs ls), lB ((List.range ls.length).map tA)].flatMap (usesB (usesD 1)) = [] := flat_none fun b hb => by
      have hb : b = nB (attN vs ls) ∨ b = lB ((List.range ls.length).map tA) := by simpa using hb
      unfold usesB
      rcases hb with rfl | rfl
      · rw [if_neg (show ¬ (nB (attN vs ls)).kind = 4 by show ¬ (3 : Int) = 4; decide)]; rfl
      · rw [if_neg (show ¬ (lB ((List.range ls.length).map tA)).kind = 4 by show ¬ (2 : Int) = 4; decide)]; rfl
    rw [h2, List.nil_append]
    unfold dsL onL
    rw [List.flatMap_assoc]
    refine flat_congr fun i hi => ?_
    have hd : usesB (usesD 1) (dB i) = [] := by
      unfold usesB
      rw [if_neg (show ¬ (dB i).kind = 4 by show ¬ (5 : Int) = 4; decide)]
      exact usesD1_x
    have hu : usesB (usesD 1) (uB i) = [strP (nm 100 i)] := by
      unfold usesB
      rw [if_pos (show (uB i).kind = 4 from rfl)]
      show usesOf [(sUse, strP (nm 100 i))] ++ usesD 1 [] = _
      unfold usesOf
      rw [if_pos rfl]
      rfl
    rw [List.flatMap_cons, hd, List.nil_append]
    cases ds.getD i false
    · rfl
    · show usesB (usesD 1) (uB i) ++ [] = [strP (nm 100 i)]
      rw [hu]; rfl
  · obtain ⟨i, -, rfl⟩ := List.mem_map.1 hb
    unfold usesB
    rw [if_neg (show ¬ (vB i).kind = 4 by show ¬ (1 : Int) = 4; decide)]
    rfl
theorem labels_of_map (xs : List ByteArray) : labelsOf (xs.map strP) = some xs := by
  induction xs with
  | nil => rfl
  | cons a xs ih =>
    rw [List.map_cons, labelsOf, ih]
    rfl
theorem onL_map {α β : Type} (xs : List Bool) (f : Nat → α) (g : α → β) (n : Nat) : (onL xs f n).map g = onL xs (fun i => g (f i)) n := by
  unfold onL
  rw [List.map_flatMap]
  refine flat_congr fun i _ => ?_
  cases xs.getD i false <;> rfl
theorem labels_all {vs ls ds : List Bool} : labelsOf (usesD 2 (allB vs ls ds)) = some (onL ds (nm 100) ds.length) := by
  rw [uses_all, ← onL_map ds (nm 100) strP, labels_of_map]
theorem defines_all {vs ls ds : List Bool} (hd : ds.length ≤ 8) : definesL (usesD 2 (allB vs ls ds)) (allB vs ls ds) = offL ds (fun i => ((3 : Int), nm 100 i)) ds.length := by
  unfold definesL
  rw [labels_all]
  show (allB vs ls ds).flatMap (defW (namesU (onL ds (nm 100) ds.length))) = _
  generalize hns : namesU (onL ds (nm 100) ds.length) = ns
  have hu : ∀ i, i < ds.length → usedB ns (nm 100 i) = ds.getD i false := fun i hi => by
    rw [← hns, Bool.eq_iff_iff, used_names, onL_mem]
    constructor
    · rintro ⟨j, hj, h, e⟩
      obtain ⟨-, rfl⟩ := nm_inj (by omega) (by omega) e
      exact h
    · intro h; exact ⟨i, hi, h, rfl⟩
  unfold allB
  rw [List.flatMap_append, List.flatMap_append, flat_none (l := (List.range vs.length).map vB) fun b hb => ?_, List.nil_append]
  · have h2 : [nB (attN vs ls), lB ((List.range ls.length).map tA)].flatMap (defW ns) = [] := flat_none fun b hb => by
      have hb : b = nB (attN vs ls) ∨ b = lB ((List.range ls.length).map tA) := by simpa using hb
      unfold defW
      rcases hb with rfl | rfl
      · rw [if_neg fun h => absurd h.1 (by show ¬ (3 : Int) = 5; decide)]
      · rw [if_neg fun h => absurd h.1 (by show ¬ (2 : Int) = 5; decide)]
    rw [h2, List.nil_append]
    unfold dsL offL
    rw [List.flatMap_assoc]
    refine flat_congr fun i hi => ?_
    have hi := List.mem_range.1 hi
    have hm : defW ns (uB i) = [] := by
      unfold defW
      rw [if_neg fun h => absurd h.1 (by show ¬ (4 : Int) = 5; decide)]
    have hx : defW ns (dB i) = if ds.getD i false then [] else [((3 : Int), nm 100 i)] := by
      unfold defW
      rw [show (dB i).label = nm 100 i from rfl, hu i hi]
      cases ds.getD i false
      · rw [if_pos ⟨rfl, rfl⟩]; rfl
      · rw [if_neg fun h => by cases h.2]; rfl
    rw [List.flatMap_cons, hx]
    cases ds.getD i false
    · rfl
    · show [] ++ (defW ns (uB i) ++ []) = []
      rw [hm]; rfl
  · obtain ⟨i, -, rfl⟩ := List.mem_map.1 hb
    unfold defW
    rw [if_neg fun h => absurd h.1 (by show ¬ (1 : Int) = 5; decide)]
theorem warns_all {vs ls ds : List Bool} (hv : vs.length ≤ 8) (hl : ls.length ≤ 8) (hd : ds.length ≤ 8) : warnsL 1 (allB vs ls ds) = wantW vs ls ds := by
  unfold warnsL wantW
  rw [scope_all hv hl, defines_all hd, flat_none (l := allB vs ls ds) (f := inL) fun b hb => ?_, List.append_nil]
  unfold inL
  rcases allB_mem.1 hb with ⟨i, hi, rfl⟩ | rfl | rfl | ⟨i, hi, rfl | ⟨-, rfl⟩⟩
  · rw [if_neg (by show ¬ (1 : Int) = 5; decide)]
  · rw [if_neg (by show ¬ (3 : Int) = 5; decide)]
  · rw [if_neg (by show ¬ (2 : Int) = 5; decide)]
  · rw [if_pos (show (dB i).kind = 5 from rfl)]
    refine scope_quiet _ fun x hx => ?_
    obtain rfl : x = xB := by simpa using (show x ∈ [xB] from hx)
    exact ⟨by show (3 : Int) ≠ 1; decide, by show (3 : Int) ≠ 2; decide⟩
  · rw [if_neg (by show ¬ (4 : Int) = 5; decide)]
/-- Expressions of the law. -/
inductive LawX : List NodeL → Prop
  | int : LawX (strP ⟨#[105, 110, 116]⟩)
  | say (i : Nat) (h : i < 8) : LawX (strP (nm 100 i))
  | var (i : Nat) (h : i < 8) : LawX (refN (sVar ++ nm 118 i))
  | loc (i : Nat) (h : i < 8) : LawX (strR (sLoc ++ nm 108 i))
  | num : LawX num0
theorem le8 {P : Nat → Prop} (h0 : P 0) (h1 : P 1) (h2 : P 2) (h3 : P 3) (h4 : P 4) (h5 : P 5) (h6 : P 6) (h7 : P 7) : ∀ i, i < 8 → P i := by
  intro i hi
  have h : i = 0 ∨ i = 1 ∨ i = 2 ∨ i = 3 ∨ i = 4 ∨ i = 5 ∨ i = 6 ∨ i = 7 := by omega
  rcases h with rfl | rfl | rfl | rfl | rfl | rfl | rfl | rfl <;> assumption
theorem tree_say : ∀ i, i < 8 → treeP (strP (nm 100 i)) = true := le8 (by kernel_rfl) (by kernel_rfl) (by kernel_rfl) (by kernel_rfl) (by kernel_rfl) (by kernel_rfl) (by kernel_rfl) (by kernel_rfl)
theorem tree_var : ∀ i, i < 8 → treeP (refN (sVar ++ nm 118 i)) = true := le8 (by kernel_rfl) (by kernel_rfl) (by kernel_rfl) (by kernel_rfl) (by kernel_rfl) (by kernel_rfl) (by kernel_rfl) (by kernel_rfl)
theorem tree_loc : ∀ i, i < 8 → treeP (strR (sLoc ++ nm 108 i)) = true := le8 (by kernel_rfl) (by kernel_rfl) (by kernel_rfl) (by kernel_rfl) (by kernel_rfl) (by kernel_rfl) (by kernel_rfl) (by kernel_rfl)
theorem name_v : ∀ i, i < 8 → nameP (⟨#[97]⟩ ++ nm 118 i) = true := le8 (by kernel_rfl) (by kernel_rfl) (by kernel_rfl) (by kernel_rfl) (by kernel_rfl) (by kernel_rfl) (by kernel_rfl) (by kernel_rfl)
theorem name_l : ∀ i, i < 8 → nameP (⟨#[97]⟩ ++ nm 108 i) = true := le8 (by kernel_rfl) (by kernel_rfl) (by kernel_rfl) (by kernel_rfl) (by kernel_rfl) (by kernel_rfl) (by kernel_rfl) (by kernel_rfl)
theorem name_t : ∀ i, i < 8 → nameP (nm 108 i) = true := le8 (by kernel_rfl) (by kernel_rfl) (by kernel_rfl) (by kernel_rfl) (by kernel_rfl) (by kernel_rfl) (by kernel_rfl) (by kernel_rfl)
theorem label_v : ∀ i, i < 8 → labelB (nm 118 i) = true := le8 (by kernel_rfl) (by kernel_rfl) (by kernel_rfl) (by kernel_rfl) (by kernel_rfl) (by kernel_rfl) (by kernel_rfl) (by kernel_rfl)
theorem label_d : ∀ i, i < 8 → labelB (nm 100 i) = true := le8 (by kernel_rfl) (by kernel_rfl) (by kernel_rfl) (by kernel_rfl) (by kernel_rfl) (by kernel_rfl) (by kernel_rfl) (by kernel_rfl)
theorem app_size (a : ByteArray) (c : UInt8) {i : Nat} (hi : i < 8) (ha : a.size ≤ 10) : (a ++ nm c i).size ≤ 14 := by
  have := nm_size (c := c) (i := i) (by omega)
  rw [ByteArray.size_append]; omega
theorem lawX_ok {e : List NodeL} (h : LawX e) : treeP e = true ∧ e.length = 1 ∧ (∀ n ∈ e, Few n ∧ n.text.size ≤ 100000 ∧ n.kids.length ≤ 100000) ∧ (rawG e).length ≤ 1 ∧ ∀ n ∈ e, n.parts.length ≤ 100000 := by
  cases h with
  | int =>
    refine ⟨by kernel_rfl, rfl, fun n hn => ?_, by rw [raw_strP]; simp, fun n hn => ?_⟩
    · obtain rfl : n = ⟨2, 0, ⟨#[]⟩, [(false, ⟨#[105, 110, 116]⟩)], []⟩ := by simpa [strP] using hn
      exact ⟨⟨by simp, fun p hp => by obtain rfl : p = (false, ⟨#[105, 110, 116]⟩) := by simpa using hp
                                      show (3 : Nat) ≤ _; omega⟩, by show (0 : Nat) ≤ _; omega, by simp⟩
    · obtain rfl : n = ⟨2, 0, ⟨#[]⟩, [(false, ⟨#[105, 110, 116]⟩)], []⟩ := by simpa [strP] using hn
      simp
  | say i hi =>
    have := nm_size (c := 100) (i := i) (by omega)
    refine ⟨tree_say i hi, rfl, fun n hn => ?_, by rw [raw_strP]; simp, fun n hn => ?_⟩
    · obtain rfl : n = ⟨2, 0, ⟨#[]⟩, [(false, nm 100 i)], []⟩ := by simpa [strP] using hn
      exact ⟨⟨by simp, fun p hp => by obtain rfl : p = (false, nm 100 i) := by simpa using hp
                                      show (nm 100 i).size ≤ _; omega⟩, by show (0 : Nat) ≤ _; omega, by simp⟩
    · obtain rfl : n = ⟨2, 0, ⟨#[]⟩, [(false, nm 100 i)], []⟩ := by simpa [strP] using hn
      simp
  | var i hi =>
    have := app_size sVar 118 hi (by show (4 : Nat) ≤ _; omega)
    refine ⟨tree_var i hi, rfl, fun n hn => ?_, by rw [raw_ref]; simp, fun n hn => ?_⟩
    · obtain rfl : n = ⟨4, 0, sVar ++ nm 118 i, [], []⟩ := by simpa [refN] using hn
      exact ⟨⟨by simp, fun p hp => by cases hp⟩, by show (sVar ++ nm 118 i).size ≤ _; omega, by simp⟩
    · obtain rfl : n = ⟨4, 0, sVar ++ nm 118 i, [], []⟩ := by simpa [refN] using hn
      simp
  | loc i hi =>
    have := app_size sLoc 108 hi (by show (6 : Nat) ≤ _; omega)
    refine ⟨tree_loc i hi, rfl, fun n hn => ?_, by rw [raw_strR]; simp, fun n hn => ?_⟩
    · obtain rfl : n = ⟨2, 0, ⟨#[]⟩, [(false, ⟨#[120]⟩), (true, sLoc ++ nm 108 i)], []⟩ := by simpa [strR] using hn
      refine ⟨⟨by simp, fun p hp => ?_⟩, by show (0 : Nat) ≤ _; omega, by simp⟩
      have hp : p = (false, ⟨#[120]⟩) ∨ p = (true, sLoc ++ nm 108 i) := by simpa using hp
      rcases hp with rfl | rfl
      · show (1 : Nat) ≤ _; omega
      · show (sLoc ++ nm 108 i).size ≤ _; omega
    · obtain rfl : n = ⟨2, 0, ⟨#[]⟩, [(false, ⟨#[120]⟩), (true, sLoc ++ nm 108 i)], []⟩ := by simpa [strR] using hn
      simp
  | num =>
    refine ⟨by kernel_rfl, rfl, fun n hn => ?_, by rw [raw_num]; simp, fun n hn => ?_⟩
    · obtain rfl : n = ⟨1, 0, ⟨#[]⟩, [], []⟩ := by simpa [num0] using hn
      exact ⟨⟨by simp, fun p hp => by cases hp⟩, by show (0 : Nat) ≤ _; omega, by simp⟩
    · obtain rfl : n = ⟨1, 0, ⟨#[]⟩, [], []⟩ := by simpa [num0] using hn
      simp
/-- Attributes of the law. -/
structure LawA (al : List (ByteArray × List NodeL)) : Prop where
  few : al.length ≤ 16
  name : ∀ a ∈ al, nameP a.1 = true ∧ a.1.size ≤ 100
  once : al.Pairwise fun a b => a.1 ≠ b.1
  expr : ∀ a ∈ al, LawX a.2
theorem LawA.ok {al : List (ByteArray × List NodeL)} (h : LawA al) : AttrsOK al := by
  refine ⟨by have := h.few; omega, fun a ha => by have := (h.name a ha).2; omega, fun a ha => (h.name a ha).1, fun j a hj z hz => ?_, fun a ha => ?_⟩
  · obtain ⟨i, hi⟩ := List.getElem?_of_mem hz
    rw [List.getElem?_take] at hi
    split at hi
    · rename_i hij
      obtain ⟨p1, p2⟩ := List.getElem?_eq_some_iff.1 hi
      obtain ⟨q1, q2⟩ := List.getElem?_eq_some_iff.1 hj
      have := (List.pairwise_iff_getElem.1 h.once) i j p1 q1 hij
      rw [p2, q2] at this
      exact this
    · cases hi
  · obtain ⟨t1, t2, t3, t4, t5⟩ := lawX_ok (h.expr a ha)
    exact ⟨t1, by omega, t3⟩
theorem LawA.refs {al : List (ByteArray × List NodeL)} (h : LawA al) : RefsOK al ∧ (refsA al).length ≤ 16 := by
  refine ⟨fun a ha => ?_, ?_⟩
  · obtain ⟨t1, t2, t3, t4, t5⟩ := lawX_ok (h.expr a ha)
    exact ⟨t1, by omega, t3, by omega⟩
  · have := flat_fewM (fun a : ByteArray × List NodeL => refsG a.2) 1 al fun a ha => by
      obtain ⟨t1, t2, t3, t4, t5⟩ := lawX_ok (h.expr a ha)
      exact Nat.le_trans (refsG_few _) t4
    have h2 := h.few
    unfold refsA
    omega
theorem lawA_nil : LawA [] := ⟨by simp, fun a ha => (by cases ha), List.Pairwise.nil, fun a ha => (by cases ha)⟩
theorem lawA_one {x : ByteArray} {e : List NodeL} (hn : nameP x = true) (hs : x.size ≤ 100) (he : LawX e) : LawA [(x, e)] :=
  ⟨by simp, fun a ha => (by obtain rfl : a = (x, e) := by simpa using ha
                            exact ⟨hn, hs⟩), by simp, fun a ha => (by obtain rfl : a = (x, e) := by simpa using ha
                                                                      exact he)⟩
theorem onL_pair {α : Type} {R : α → α → Prop} {xs : List Bool} {f : Nat → α} {n : Nat} (h : ∀ i j, i < j → j < n → R (f i) (f j)) : (onL xs f n).Pairwise R := by
  unfold onL
  rw [List.pairwise_flatMap]
  refine ⟨fun i _ => by split <;> simp, ?_⟩
  refine List.Pairwise.imp_of_mem ?_ List.pairwise_lt_range
  intro i j hi hj hij x hx y hy
  have hx : x = f i := by split at hx <;> simp at hx; exact hx
  have hy : y = f j := by split at hy <;> simp at hy; exact hy
  rw [hx, hy]
  exact h i j hij (List.mem_range.1 hj)
theorem lawA_attN {vs ls : List Bool} (hv : vs.length ≤ 8) (hl : ls.length ≤ 8) : LawA (attN vs ls) := by
  refine ⟨?_, fun a ha => ?_, ?_, fun a ha => ?_⟩
  · have h1 := onL_len vs nA vs.length
    have h2 := onL_len ls mA ls.length
    unfold attN
    rw [List.length_append]; omega
  · rcases attN_mem.1 ha with ⟨i, hi, -, rfl⟩ | ⟨i, hi, -, rfl⟩
    · have := app_size ⟨#[97]⟩ 118 (i := i) (by omega) (by show (1 : Nat) ≤ _; omega)
      exact ⟨name_v i (by omega), by show (⟨#[97]⟩ ++ nm 118 i).size ≤ _; omega⟩
    · have := app_size ⟨#[97]⟩ 108 (i := i) (by omega) (by show (1 : Nat) ≤ _; omega)
      exact ⟨name_l i (by omega), by show (⟨#[97]⟩ ++ nm 108 i).size ≤ _; omega⟩
  · unfold attN
    rw [List.pairwise_append]
    refine ⟨onL_pair fun i j hij hj e => ?_, onL_pair fun i j hij hj e => ?_, fun a ha b hb e => ?_⟩
    · have := (nm_inj (by omega) (by omega) (app_inj e)).2; omega
    · have := (nm_inj (by omega) (by omega) (app_inj e)).2; omega
    · obtain ⟨i, hi, -, rfl⟩ := onL_mem.1 ha
      obtain ⟨j, hj, -, rfl⟩ := onL_mem.1 hb
      have := (nm_inj (by omega) (by omega) (app_inj e)).1
      exact absurd this (by decide)
  · rcases attN_mem.1 ha with ⟨i, hi, -, rfl⟩ | ⟨i, hi, -, rfl⟩
    · exact .var i (by omega)
    · exact .loc i (by omega)
theorem lawA_loc {n : Nat} (hn : n ≤ 8) : LawA ((List.range n).map tA) := by
  refine ⟨by simp; omega, fun a ha => ?_, ?_, fun a ha => ?_⟩
  · obtain ⟨i, hi, rfl⟩ := List.mem_map.1 ha
    have hi := List.mem_range.1 hi
    have := nm_size (c := 108) (i := i) (by omega)
    exact ⟨name_t i (by omega), by show (nm 108 i).size ≤ _; omega⟩
  · rw [List.pairwise_map]
    refine List.Pairwise.imp_of_mem ?_ List.pairwise_lt_range
    intro i j hi hj hij e
    have hj := List.mem_range.1 hj
    have := (nm_inj (by omega) (by omega) e).2; omega
  · obtain ⟨i, hi, rfl⟩ := List.mem_map.1 ha
    exact .num
theorem all_attrs {vs ls ds : List Bool} (hv : vs.length ≤ 8) (hl : ls.length ≤ 8) (hd : ds.length ≤ 8) {b : BlkL} (hb : b ∈ allB vs ls ds) : LawA b.attrs ∧ b.label.size ≤ 100 := by
  rcases allB_mem.1 hb with ⟨i, hi, rfl⟩ | rfl | rfl | ⟨i, hi, rfl | ⟨-, rfl⟩⟩
  · have := nm_size (c := 118) (i := i) (by omega)
    exact ⟨lawA_one (by kernel_rfl) (by show (4 : Nat) ≤ _; omega) .int, by show (nm 118 i).size ≤ _; omega⟩
  · exact ⟨lawA_attN hv hl, by show (1 : Nat) ≤ _; omega⟩
  · exact ⟨lawA_loc hl, by show (0 : Nat) ≤ _; omega⟩
  · have := nm_size (c := 100) (i := i) (by omega)
    exact ⟨lawA_nil, by show (nm 100 i).size ≤ _; omega⟩
  · exact ⟨lawA_one (by kernel_rfl) (by show (3 : Nat) ≤ _; omega) (.say i (by omega)), by show (1 : Nat) ≤ _; omega⟩
theorem all_len {vs ls ds : List Bool} (hv : vs.length ≤ 8) (hd : ds.length ≤ 8) : (allB vs ls ds).length ≤ 26 := by
  have := dsL_len ds ds.length
  unfold allB
  simp only [List.length_append, List.length_map, List.length_range, List.length_cons, List.length_nil]
  omega
theorem scope_ok {l : List BlkL} (hl : l.length ≤ 26) (h : ∀ b ∈ l, LawA b.attrs ∧ b.label.size ≤ 100) : ScopeOK l := by
  refine ⟨by omega, fun b hb => by have := (h b hb).2; omega, fun b hb => ⟨by have := (h b hb).1.few; omega, fun a ha => by have := ((h b hb).1.name a ha).2; omega⟩, fun b hb => (h b hb).1.refs.1, ?_⟩
  have := flat_fewM refsB 16 l fun b hb => by
    unfold refsB
    split
    · simp
    · exact (h b hb).1.refs.2
  unfold refsL
  omega
theorem blkOK_x : BlkOK xB := BlkOK.plain (.inr (.inl rfl)) (by show labelB ⟨#[120]⟩ = true; kernel_rfl) lawA_nil.ok rfl
theorem lint_all {vs ls ds : List Bool} (hv : vs.length ≤ 8) (hl : ls.length ≤ 8) (hd : ds.length ≤ 8) : LintOK 1 (allB vs ls ds) := by
  have hA := fun b (hb : b ∈ allB vs ls ds) => all_attrs hv hl hd hb
  have hlen := all_len (ls := ls) hv hd
  refine ⟨⟨by omega, fun b hb => ?_⟩, scope_ok hlen hA, fun b hb => ?_, ?_, fun ns hn => ?_⟩
  · have hs := (hA b hb).2
    refine ⟨?_, by omega, ?_⟩
    · rcases allB_mem.1 hb with ⟨i, hi, rfl⟩ | rfl | rfl | ⟨i, hi, rfl | ⟨-, rfl⟩⟩
      · exact BlkOK.plain (.inl rfl) (label_v i (by omega)) (hA _ hb).1.ok rfl
      · exact BlkOK.plain (.inr (.inl rfl)) (by show labelB ⟨#[110]⟩ = true; kernel_rfl) (hA _ hb).1.ok rfl
      · exact BlkOK.locals rfl rfl (hA _ hb).1.ok rfl
      · exact BlkOK.define rfl (label_d i (by omega)) rfl fun x hx => by
          obtain rfl : x = xB := by simpa using (show x ∈ [xB] from hx)
          show (3 : Int) ≠ 5
          decide
      · exact BlkOK.plain (.inr (.inr rfl)) (by show labelB ⟨#[109]⟩ = true; kernel_rfl) (hA _ hb).1.ok rfl
    · rcases allB_mem.1 hb with ⟨i, hi, rfl⟩ | rfl | rfl | ⟨i, hi, rfl | ⟨-, rfl⟩⟩
      · exact ⟨by show (0 : Nat) ≤ _; omega, fun x hx => by cases hx⟩
      · exact ⟨by show (0 : Nat) ≤ _; omega, fun x hx => by cases hx⟩
      · exact ⟨by show (0 : Nat) ≤ _; omega, fun x hx => by cases hx⟩
      · exact ⟨by show (1 : Nat) ≤ _; omega, fun x hx => by
          obtain rfl : x = xB := by simpa using (show x ∈ [xB] from hx)
          exact ⟨blkOK_x, by show (1 : Nat) ≤ _; omega, rfl⟩⟩
      · exact ⟨by show (0 : Nat) ≤ _; omega, fun x hx => by cases hx⟩
  · rcases allB_mem.1 hb with ⟨i, hi, rfl⟩ | rfl | rfl | ⟨i, hi, rfl | ⟨-, rfl⟩⟩
    · exact scopeOK_nil
    · exact scopeOK_nil
    · exact scopeOK_nil
    · exact scope_ok (by show (1 : Nat) ≤ _; omega) fun x hx => by
        obtain rfl : x = xB := by simpa using (show x ∈ [xB] from hx)
        exact ⟨lawA_nil, by show (1 : Nat) ≤ _; omega⟩
    · exact scopeOK_nil
  · rw [uses_all]
    have := onL_len ds (fun i => strP (nm 100 i)) ds.length
    omega
  · rw [uses_all] at hn
    obtain ⟨i, hi, -, rfl⟩ := onL_mem.1 hn
    obtain ⟨t1, t2, t3, t4, t5⟩ := lawX_ok (LawX.say i (by omega))
    exact ⟨by omega, t5⟩
end Go.Proofs.YtlkdicabmikhkaaGreatDoor
