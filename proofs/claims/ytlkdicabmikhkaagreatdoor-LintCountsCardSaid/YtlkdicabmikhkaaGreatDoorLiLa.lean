/- The blocks of the law of modules that may mean any define. -/
import Derived.Test.YtlkdicabmikhkaaGreatDoorLiK
import Derived.Test.YtlkdicabmikhkaaGreatDoorRfF
namespace Go.Proofs.YtlkdicabmikhkaaGreatDoor
open Go.RowKit Go.Sort
set_option linter.unusedVariables false
set_option linter.unusedSimpArgs false
def dn (i : Nat) : ByteArray := ⟨#[100]⟩ ++ ⟨(Lib.decDigits i).toArray⟩
def dCells (i : Nat) : List Value := [.int .i64 5, .string (dn i), .slice none 0 0, .slice none 0 0]
theorem info_blk : (Tryz.prog.info? 28).map (fun i => (i.zero, i.size, i.bytes)) = some (some (.agg #[.int .i64 0, .string ⟨#[]⟩, .slice none 0 0, .slice none 0 0]), 4, 72) := by kernel_rfl
theorem dn_size {i : Nat} (h : i ≤ 100) : (dn i).size ≤ 4 := by
  have := dec_len 3 i (by omega) (by omega)
  unfold dn
  rw [ByteArray.size_append]
  show 1 + (Lib.decDigits i).toArray.size ≤ 4
  simp; omega
theorem range_snoc {α : Type} (f : Nat → List α) (i : Nat) : (List.range (i + 1)).flatMap f = (List.range i).flatMap f ++ f i := by
  rw [List.range_succ, List.flatMap_append]; simp
def sIdx : ByteArray := ⟨#[99, 111, 117, 110, 116, 46, 105, 110, 100, 101, 120]⟩
def e0 : List NodeL := [⟨4, 0, sIdx, [], []⟩]
def e1 : List NodeL := [⟨2, 0, ⟨#[]⟩, [(false, ⟨#[100]⟩), (true, sIdx)], []⟩]
def e2 : List NodeL := [⟨2, 0, ⟨#[]⟩, [], []⟩]
def EOk (e : List NodeL) : Prop := e = e0 ∨ e = e1 ∨ e = e2
def modB (e : List NodeL) : BlkL := .mk 4 ⟨#[109]⟩ [(sUse, e)] []
def defB (i : Nat) (sub : List BlkL) : BlkL := .mk 5 (dn i) [] sub
/-- Blocks of the law: defines of none, or of a module; and modules. -/
structure LawL (e : List NodeL) (bl : List BlkL) : Prop where
  len : bl.length ≤ 7
  all : ∀ b ∈ bl, b = modB e ∨ (∃ i, i < 6 ∧ b = defB i []) ∨ b = defB 0 [modB e]
  has : modB e ∈ bl ∨ defB 0 [modB e] ∈ bl
theorem dn_label0 : labelB (dn 0) = true := by kernel_rfl
theorem dn_label1 : labelB (dn 1) = true := by kernel_rfl
theorem dn_label2 : labelB (dn 2) = true := by kernel_rfl
theorem dn_label3 : labelB (dn 3) = true := by kernel_rfl
theorem dn_label4 : labelB (dn 4) = true := by kernel_rfl
theorem dn_label5 : labelB (dn 5) = true := by kernel_rfl
theorem dn_label (i : Nat) (hi : i < 6) : labelB (dn i) = true := by
  have h : i = 0 ∨ i = 1 ∨ i = 2 ∨ i = 3 ∨ i = 4 ∨ i = 5 := by omega
  rcases h with rfl | rfl | rfl | rfl | rfl | rfl
  · exact dn_label0
  · exact dn_label1
  · exact dn_label2
  · exact dn_label3
  · exact dn_label4
  · exact dn_label5
theorem eok_tree {e : List NodeL} (h : EOk e) : treeP e = true ∧ e.length ≤ 1000 ∧ (∀ n ∈ e, Few n ∧ n.text.size ≤ 100000 ∧ n.kids.length ≤ 100000) ∧ (rawG e).length ≤ 1 ∧ labelL e = none ∧ ∀ n ∈ e, n.parts.length ≤ 100000 := by
  rcases h with rfl | rfl | rfl
  · refine ⟨by kernel_rfl, by simp [e0], fun n hn => ?_, by simp [rawG, e0, ownRef, partRefs], rfl, fun n hn => ?_⟩
    · obtain rfl : n = ⟨4, 0, sIdx, [], []⟩ := by simpa [e0] using hn
      exact ⟨⟨by simp, fun p hp => by cases hp⟩, by show (11 : Nat) ≤ _; omega, by simp⟩
    · obtain rfl : n = ⟨4, 0, sIdx, [], []⟩ := by simpa [e0] using hn
      simp
  · refine ⟨by kernel_rfl, by simp [e1], fun n hn => ?_, by simp [rawG, e1, ownRef, partRefs], rfl, fun n hn => ?_⟩
    · obtain rfl : n = ⟨2, 0, ⟨#[]⟩, [(false, ⟨#[100]⟩), (true, sIdx)], []⟩ := by simpa [e1] using hn
      refine ⟨⟨by simp, fun p hp => ?_⟩, by show (0 : Nat) ≤ _; omega, by simp⟩
      have hp : p = (false, ⟨#[100]⟩) ∨ p = (true, sIdx) := by simpa using hp
      rcases hp with rfl | rfl
      · show (1 : Nat) ≤ _; omega
      · show (11 : Nat) ≤ _; omega
    · obtain rfl : n = ⟨2, 0, ⟨#[]⟩, [(false, ⟨#[100]⟩), (true, sIdx)], []⟩ := by simpa [e1] using hn
      simp
  · refine ⟨by kernel_rfl, by simp [e2], fun n hn => ?_, by simp [rawG, e2, ownRef, partRefs], rfl, fun n hn => ?_⟩
    · obtain rfl : n = ⟨2, 0, ⟨#[]⟩, [], []⟩ := by simpa [e2] using hn
      exact ⟨⟨by simp, fun p hp => by cases hp⟩, by show (0 : Nat) ≤ _; omega, by simp⟩
    · obtain rfl : n = ⟨2, 0, ⟨#[]⟩, [], []⟩ := by simpa [e2] using hn
      simp
theorem refsG_few (ns : List NodeL) : (refsG ns).length ≤ (rawG ns).length := by
  unfold refsG textsOf
  rw [List.length_map]
  exact Nat.le_trans (compact_le _) (by simp [sortB, bytesOf, List.length_mergeSort])
theorem attrsOK_use {e : List NodeL} (h : EOk e) : AttrsOK [(sUse, e)] := by
  obtain ⟨t1, t2, t3, t4, t5, t6⟩ := eok_tree h
  refine ⟨by simp, fun a ha => ?_, fun a ha => ?_, fun j a hj z hz => ?_, fun a ha => ?_⟩
  · obtain rfl : a = (sUse, e) := by simpa using ha
    show (3 : Nat) ≤ _; omega
  · obtain rfl : a = (sUse, e) := by simpa using ha
    show nameP sUse = true
    kernel_rfl
  · have : j = 0 := by have := (List.getElem?_eq_some_iff.1 hj).1; simpa using this
    subst this
    simp at hz
  · obtain rfl : a = (sUse, e) := by simpa using ha
    exact ⟨t1, t2, t3⟩
theorem blkOK_mod {e : List NodeL} (h : EOk e) : BlkOK (modB e) := BlkOK.plain (.inr (.inr rfl)) (by show labelB ⟨#[109]⟩ = true; kernel_rfl) (attrsOK_use h) rfl
theorem blksOK_sub {e : List NodeL} (h : EOk e) : BlksOK 1 [modB e] := ⟨by simp, fun b hb => by
  obtain rfl : b = modB e := by simpa using hb
  exact ⟨blkOK_mod h, by show (1 : Nat) ≤ _; omega, rfl⟩⟩
theorem scope_mod {e : List NodeL} (h : EOk e) (l : List BlkL) (hl : l.length ≤ 7) (ha : ∀ b ∈ l, b = modB e ∨ (∃ i, i < 6 ∧ b = defB i []) ∨ b = defB 0 [modB e]) : ScopeOK l := by
  obtain ⟨t1, t2, t3, t4, t5, t6⟩ := eok_tree h
  have hat : ∀ b ∈ l, b.attrs = [(sUse, e)] ∨ b.attrs = [] := fun b hb => by
    rcases ha b hb with rfl | ⟨i, -, rfl⟩ | rfl
    · exact .inl rfl
    · exact .inr rfl
    · exact .inr rfl
  refine ⟨by omega, fun b hb => ?_, fun b hb => ?_, fun b hb => ?_, ?_⟩
  · rcases ha b hb with rfl | ⟨i, hi, rfl⟩ | rfl
    · show (1 : Nat) ≤ _; omega
    · have := dn_size (i := i) (by omega)
      show (dn i).size ≤ _; omega
    · have := dn_size (i := 0) (by omega)
      show (dn 0).size ≤ _; omega
  · rcases hat b hb with h | h <;> rw [h]
    · exact ⟨by simp, fun a ha => by obtain rfl : a = (sUse, e) := by simpa using ha
                                     show (3 : Nat) ≤ _; omega⟩
    · exact ⟨by simp, fun a ha => by cases ha⟩
  · rcases hat b hb with h | h <;> rw [h]
    · exact fun a ha => by
        obtain rfl : a = (sUse, e) := by simpa using ha
        exact ⟨t1, t2, t3, by show (rawG e).length ≤ _; omega⟩
    · exact fun a ha => by cases ha
  · have := flat_fewM refsB 1 l fun b hb => by
      unfold refsB refsA
      split
      · simp
      · rcases hat b hb with h | h <;> rw [h]
        · simp
          exact Nat.le_trans (refsG_few e) t4
        · simp
    unfold refsL
    omega
theorem uses_mod (e : List NodeL) : usesB (usesD 1) (modB e) = [e] := by
  unfold usesB
  rw [if_pos (show (modB e).kind = 4 from rfl)]
  show usesOf [(sUse, e)] ++ usesD 1 [] = [e]
  unfold usesOf
  rw [if_pos rfl]
  rfl
theorem uses_sub (e : List NodeL) : usesB (usesD 1) (defB 0 [modB e]) = [e] := by
  unfold usesB
  rw [if_neg (show ¬ (defB 0 [modB e]).kind = 4 by show ¬ (5 : Int) = 4; decide)]
  show [] ++ usesD 1 [modB e] = [e]
  unfold usesD
  show [] ++ (usesB (usesD 0) (modB e) ++ []) = [e]
  unfold usesB
  rw [if_pos (show (modB e).kind = 4 from rfl)]
  show [] ++ ((usesOf [(sUse, e)] ++ []) ++ []) = [e]
  unfold usesOf
  rw [if_pos rfl]
  rfl
theorem uses_none (e : List NodeL) (i : Nat) : usesB (usesD 1) (defB i []) = [] := by
  unfold usesB
  rw [if_neg (show ¬ (defB i []).kind = 4 by show ¬ (5 : Int) = 4; decide)]
  rfl
theorem uses_law {e : List NodeL} {bl : List BlkL} (h : LawL e bl) : (usesD 2 bl).length ≤ 7 ∧ (∀ ns ∈ usesD 2 bl, ns = e) ∧ e ∈ usesD 2 bl := by
  have hb : ∀ b ∈ bl, usesB (usesD 1) b = [e] ∨ usesB (usesD 1) b = [] := fun b hb => by
    rcases h.all b hb with rfl | ⟨i, -, rfl⟩ | rfl
    · exact .inl (uses_mod e)
    · exact .inr (uses_none e i)
    · exact .inl (uses_sub e)
  refine ⟨?_, fun ns hn => ?_, ?_⟩
  · have := flat_fewM (usesB (usesD 1)) 1 bl fun b hm => by rcases hb b hm with h | h <;> rw [h] <;> simp
    have := h.len
    show (bl.flatMap (usesB (usesD 1))).length ≤ 7
    omega
  · obtain ⟨b, hm, hx⟩ := List.mem_flatMap.1 (show ns ∈ bl.flatMap (usesB (usesD 1)) from hn)
    rcases hb b hm with h | h <;> rw [h] at hx
    · simpa using hx
    · cases hx
  · refine List.mem_flatMap.2 (show ∃ b ∈ bl, e ∈ usesB (usesD 1) b from ?_)
    rcases h.has with hm | hm
    · exact ⟨_, hm, by rw [uses_mod]; simp⟩
    · exact ⟨_, hm, by rw [uses_sub]; simp⟩
theorem scope_quiet (p : ByteArray) {l : List BlkL} (h : ∀ b ∈ l, b.kind ≠ 1 ∧ b.kind ≠ 2) : scopeW p l = [] := by
  unfold scopeW varsW locsW
  rw [List.flatMap_eq_nil_iff.2 fun b hb => ?_, List.flatMap_eq_nil_iff.2 fun b hb => ?_]
  · rfl
  · unfold locB1; rw [if_neg (h b hb).2]
  · unfold varW; rw [if_neg fun x => (h b hb).1 x.1]
theorem law_kinds {e : List NodeL} {l : List BlkL} (ha : ∀ b ∈ l, b = modB e ∨ (∃ i, i < 6 ∧ b = defB i []) ∨ b = defB 0 [modB e]) : ∀ b ∈ l, b.kind ≠ 1 ∧ b.kind ≠ 2 := fun b hb => by
  rcases ha b hb with rfl | ⟨i, -, rfl⟩ | rfl
  · exact ⟨by show (4 : Int) ≠ 1; decide, by show (4 : Int) ≠ 2; decide⟩
  · exact ⟨by show (5 : Int) ≠ 1; decide, by show (5 : Int) ≠ 2; decide⟩
  · exact ⟨by show (5 : Int) ≠ 1; decide, by show (5 : Int) ≠ 2; decide⟩
theorem law_sub {e : List NodeL} {b : BlkL} (h : b = modB e ∨ (∃ i, i < 6 ∧ b = defB i []) ∨ b = defB 0 [modB e]) : b.blocks = [] ∨ b.blocks = [modB e] := by
  rcases h with rfl | ⟨i, -, rfl⟩ | rfl
  · exact .inl rfl
  · exact .inl rfl
  · exact .inr rfl
theorem warns_law {e : List NodeL} {bl : List BlkL} (he : EOk e) (h : LawL e bl) : warnsL 1 bl = [] := by
  obtain ⟨t1, t2, t3, t4, t5, t6⟩ := eok_tree he
  obtain ⟨u1, u2, u3⟩ := uses_law h
  obtain ⟨j, hj⟩ := List.getElem?_of_mem u3
  unfold warnsL
  rw [scope_quiet _ (law_kinds h.all), List.flatMap_eq_nil_iff.2 fun b hb => ?_]
  · unfold definesL
    rw [labelsOf_none hj t5]
    rfl
  · unfold inL
    split
    · refine scope_quiet _ fun x hx => ?_
      rcases law_sub (h.all b hb) with e1 | e1 <;> rw [e1] at hx
      · cases hx
      · obtain rfl : x = modB e := by simpa using hx
        exact ⟨by show (4 : Int) ≠ 1; decide, by show (4 : Int) ≠ 2; decide⟩
    · rfl
theorem lint_law {e : List NodeL} {bl : List BlkL} (he : EOk e) (h : LawL e bl) : LintOK 1 bl := by
  obtain ⟨t1, t2, t3, t4, t5, t6⟩ := eok_tree he
  obtain ⟨u1, u2, u3⟩ := uses_law h
  refine ⟨⟨by have := h.len; omega, fun b hb => ?_⟩, scope_mod he bl h.len h.all, fun b hb => ?_, by show (usesD 2 bl).length ≤ _; omega, fun ns hn => ?_⟩
  · rcases h.all b hb with rfl | ⟨i, hi, rfl⟩ | rfl
    · exact ⟨blkOK_mod he, by show (1 : Nat) ≤ _; omega, ⟨by show (0 : Nat) ≤ _; omega, fun x hx => by cases hx⟩⟩
    · have := dn_size (i := i) (by omega)
      exact ⟨BlkOK.define rfl (dn_label i hi) rfl fun x hx => (by cases hx), by show (dn i).size ≤ _; omega, ⟨by show (0 : Nat) ≤ _; omega, fun x hx => by cases hx⟩⟩
    · have := dn_size (i := 0) (by omega)
      refine ⟨BlkOK.define rfl (dn_label 0 (by omega)) rfl fun x hx => ?_, by show (dn 0).size ≤ _; omega, blksOK_sub he⟩
      obtain rfl : x = modB e := by simpa using (show x ∈ [modB e] from hx)
      show (4 : Int) ≠ 5
      decide
  · rcases law_sub (h.all b hb) with e1 | e1 <;> rw [e1]
    · exact scopeOK_nil
    · exact scope_mod he [modB e] (by simp) fun x hx => .inl (by simpa using hx)
  · rw [u2 ns hn]
    exact ⟨t2, t6⟩
end Go.Proofs.YtlkdicabmikhkaaGreatDoor
