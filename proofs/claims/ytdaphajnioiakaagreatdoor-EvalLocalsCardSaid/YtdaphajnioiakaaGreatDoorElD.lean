/- The law of locals in a row. -/
import Derived.Test.YtdaphajnioiakaaGreatDoorElB
namespace Go.Proofs.YtdaphajnioiakaaGreatDoor
open Go.RowKit
set_option linter.unusedVariables false
set_option linter.unusedSimpArgs false
def sumN (s : ByteArray) : List NodeL := [refOne s, ⟨1, 1, ⟨#[]⟩, [], []⟩, ⟨19, 0, ⟨#[]⟩, [], [0, 1]⟩]
/-- 'var.start'. -/
def varS : ByteArray := ⟨#[118, 97, 114, 46, 115, 116, 97, 114, 116]⟩
def nodesE (k i : Nat) : List NodeL := if i + 1 = k then [refOne varS] else sumN (locA (i + 1))
def attrsE (k : Nat) : List (ByteArray × List NodeL) := (List.range k).map fun i => (nameA i, nodesE k i)
def chkE (k : Nat) : Bool :=
  match rowAll (placeF (attrsE k)) 0 ((attrsE k).map fun a => rawN a.2) (List.replicate k 0) (List.replicate k []) with
  | some (some s) => match startE 0 s.1 [] with
    | some P0 => match ordE k s.2 50 P0 s.1 [] with
      | some out => out == revK k
      | none => false
    | none => false
  | _ => false
theorem chkE_all : ((List.range 15).all fun k => decide (k < 1) || (chkE k && (List.range k).all fun j => placeF ((attrsE k).take j) (nameA j) == none)) = true := by kernel_rfl
theorem sums_all : ((List.range 16).all fun i => treeP (sumN (locA i))) = true := by kernel_rfl
theorem tree_varS : treeP [refOne varS] = true := by kernel_rfl
theorem attrsE_len (k : Nat) : (attrsE k).length = k := by simp [attrsE]
theorem attrsE_get {k i : Nat} (hi : i < k) : (attrsE k)[i]? = some (nameA i, nodesE k i) := by simp [attrsE, hi]
theorem attrsE_mem {k : Nat} {a : ByteArray × List NodeL} (ha : a ∈ attrsE k) : ∃ i, i < k ∧ a = (nameA i, nodesE k i) := by
  unfold attrsE at ha
  obtain ⟨i, hi, rfl⟩ := List.mem_map.1 ha
  exact ⟨i, by simpa using hi, rfl⟩
theorem nodesE_plain (k i : Nat) : (∀ n ∈ nodesE k i, n.parts = [] ∧ n.text.size ≤ 100 ∧ n.kids.length ≤ 2) ∧ (nodesE k i).length ≤ 3 ∧ (rawN (nodesE k i)).length ≤ 1 := by
  unfold nodesE
  by_cases h : i + 1 = k
  · rw [if_pos h]
    refine ⟨fun n hn => ?_, by simp, rawN_one _⟩
    simp only [List.mem_singleton] at hn
    subst hn
    exact ⟨rfl, by show (9 : Nat) ≤ 100; omega, Nat.zero_le _⟩
  · rw [if_neg h]
    refine ⟨fun n hn => ?_, by simp [sumN], by simp [rawN, sumN, refOne]⟩
    simp only [sumN, List.mem_cons, List.not_mem_nil, or_false] at hn
    rcases hn with rfl | rfl | rfl
    · exact ⟨rfl, locA_size _, Nat.zero_le _⟩
    · exact ⟨rfl, by show (0 : Nat) ≤ 100; omega, Nat.zero_le _⟩
    · exact ⟨rfl, by show (0 : Nat) ≤ 100; omega, by simp⟩
theorem nodesE_tree {k i : Nat} (hk : k < 15) (hi : i < k) : treeP (nodesE k i) = true := by
  unfold nodesE
  by_cases h : i + 1 = k
  · rw [if_pos h]; exact tree_varS
  · rw [if_neg h]; exact List.all_eq_true.1 sums_all (i + 1) (List.mem_range.2 (by omega))
theorem attrsE_trees {k : Nat} (hk : k < 15) : TreesOK (attrsE k) := by
  intro a ha
  obtain ⟨i, hi, rfl⟩ := attrsE_mem ha
  obtain ⟨h1, h2, -⟩ := nodesE_plain k i
  refine ⟨nodesE_tree hk hi, by show (nodesE k i).length ≤ 1000; omega, fun n hn => ?_⟩
  obtain ⟨p1, p2, p3⟩ := h1 n hn
  exact ⟨⟨by rw [p1]; simp, fun p hp => by rw [p1] at hp; cases hp⟩, by omega, by omega⟩
theorem attrsE_refs {k i : Nat} {a : ByteArray × List NodeL} {rs : List ByteArray} (ha : (attrsE k)[i]? = some a) (hr : ((attrsE k).map fun a => rawN a.2)[i]? = some rs) : RefsTo a.2 rs ∧ rs.length ≤ 100000 ∧ ∀ x ∈ rs, x.size ≤ 100000 := by
  rw [List.getElem?_map, ha] at hr
  have e : rawN a.2 = rs := Option.some.inj hr
  subst e
  obtain ⟨i, hi, rfl⟩ := attrsE_mem (List.mem_of_getElem? ha)
  obtain ⟨h1, h2, h3⟩ := nodesE_plain k i
  refine ⟨fun W nv hnd => prefs W nv _ hnd (fun n hn => (h1 n hn).1) (by show (nodesE k i).length ≤ 1000; omega) h3, by show (rawN (nodesE k i)).length ≤ _; omega, fun x hx => ?_⟩
  unfold rawN at hx
  obtain ⟨n, hn, rfl⟩ := List.mem_map.1 hx
  have := (h1 n (List.mem_filter.1 hn).1).2.1
  omega
theorem chkE_at {k : Nat} (h1 : 1 ≤ k) (hk : k < 15) : chkE k = true ∧ NamesOnce (attrsE k) := by
  have q := List.all_eq_true.1 chkE_all k (List.mem_range.2 hk)
  rw [Bool.or_eq_true] at q
  rcases q with q | q
  · simp at q; omega
  · rw [Bool.and_eq_true] at q
    refine ⟨q.1, fun j a ha => ?_⟩
    have hj : j < k := by have := (List.getElem?_eq_some_iff.1 ha).1; rwa [attrsE_len] at this
    rw [attrsE_get hj] at ha
    cases ha
    have q3 := List.all_eq_true.1 q.2 j (List.mem_range.2 hj)
    rw [placeL_eq]
    simpa using q3
theorem rowE_row {k : Nat} (h1 : 1 ≤ k) (hk : k < 15) : ∃ r, rowAll (placeL (attrsE k)) 0 ((attrsE k).map fun a => rawN a.2) (List.replicate (attrsE k).length 0) (List.replicate (attrsE k).length []) = some r ∧ r ≠ none ∧
    ∀ wt bh, r = some (wt, bh) → ∃ P0 fuel, startE 0 wt [] = some P0 ∧ ordE (attrsE k).length bh fuel P0 wt [] = some (revK k) ∧ fuel ≤ 1000000 := by
  have q := (chkE_at h1 hk).1
  unfold chkE at q
  rw [placeL_eq, attrsE_len]
  cases hr : rowAll (placeF (attrsE k)) 0 ((attrsE k).map fun a => rawN a.2) (List.replicate k 0) (List.replicate k []) with
  | none => rw [hr] at q; cases q
  | some r =>
    rw [hr] at q
    cases r with
    | none => cases q
    | some s =>
      dsimp only at q
      cases hs : startE 0 s.1 [] with
      | none => rw [hs] at q; cases q
      | some P0 =>
        rw [hs] at q
        dsimp only at q
        cases ho : ordE k s.2 50 P0 s.1 [] with
        | none => rw [ho] at q; cases q
        | some out =>
          rw [ho] at q
          dsimp only at q
          have e : out = revK k := by simpa using q
          refine ⟨some s, rfl, by simp, fun wt bh h => ?_⟩
          cases h
          exact ⟨P0, 50, hs, by rw [← e]; exact ho, by omega⟩
theorem revK_get {k q : Nat} (hq : q < k) : (revK k)[q]? = some ((k - 1 - q : Nat) : Int) := by simp [revK, hq]
theorem revK_len (k : Nat) : (revK k).length = k := by simp [revK]
/-! ### values -/
theorem ref_walk (s : ByteArray) (hs : s.size ≤ maxLen) (L : ByteArray → Option VL) (hL : LeafL L) (x : Int) (hx : L s = some (vnum x)) : Walk (fun _ => True) L [refOne s] (madeS L) (vnum x, 0) where
  kids := by
    intro n hn
    simp only [List.mem_singleton] at hn
    subst hn
    exact ⟨Nat.zero_le _, fun k hk => by cases hk⟩
  above := ⟨aboveTo_len _ _, fun j hj => by have : j + 1 < 1 := hj; omega⟩
  few := by simp
  some_ := by simp
  plain := by
    intro n hn
    simp only [List.mem_singleton] at hn
    subst hn
    rfl
  made := by
    intro n hn vs r hr
    simp only [List.mem_singleton] at hn
    subst hn
    exact madeS_ok _ L hL _ (by show I64 0; unfold I64; omega) hs vs r hr
  ans := by
    have e : madeS L (refOne s) [] = some (vnum x, 0) := by
      show (if (4 : Int) = 1 then _ else if (4 : Int) = 3 then _ else if (4 : Int) = 4 then some (refR L s) else _) = _
      rw [if_neg (by decide), if_neg (by decide), if_pos rfl]
      unfold refR
      rw [hx]
    show (if (0 : Nat) ≤ 0 then (madeS L (refOne s) []).bind fun r => if r.2 ≠ 0 ∨ ([] : List NodeL) = [] then some r else evR (madeS L) [] ([] ++ [r.1]) else none) = _
    rw [if_pos (Nat.le_refl _), e]
    simp
  leaf := by simp [vnum, VL.kind]
  keep := fun _ _ _ _ => trivial
theorem sum_walk (s : ByteArray) (hs : s.size ≤ maxLen) (L : ByteArray → Option VL) (hL : LeafL L) (x : Int) (hx : L s = some (vnum x)) (hb : -100000 ≤ x ∧ x ≤ 100000) : Walk (fun _ => True) L (sumN s) (madeS L) (vnum (x + 1), 0) where
  kids := by
    intro n hn
    simp only [sumN, List.mem_cons, List.not_mem_nil, or_false] at hn
    rcases hn with rfl | rfl | rfl <;> simp [sumN, refOne]
  above := by
    refine ⟨rfl, fun j hj => ?_⟩
    have hj : j + 1 < 3 := hj
    refine ⟨2, ⟨19, 0, ⟨#[]⟩, [], [0, 1]⟩, 0, [1], ?_, rfl, rfl, by simp, rfl⟩
    match j, hj with
    | 0, _ => rfl
    | 1, _ => rfl
  few := by simp [sumN]
  some_ := by simp [sumN]
  plain := by
    intro n hn
    simp only [sumN, List.mem_cons, List.not_mem_nil, or_false] at hn
    rcases hn with rfl | rfl | rfl <;> rfl
  made := by
    intro n hn vs r hr
    refine madeS_ok _ L hL n ?_ ?_ vs r hr
    · simp only [sumN, List.mem_cons, List.not_mem_nil, or_false] at hn
      rcases hn with rfl | rfl | rfl <;> (show _ ≤ _ ∧ _ ≤ _; simp [refOne])
    · simp only [sumN, List.mem_cons, List.not_mem_nil, or_false] at hn
      rcases hn with rfl | rfl | rfl
      · exact hs
      · exact Nat.zero_le _
      · exact Nat.zero_le _
  ans := by
    have e1 : madeS L (refOne s) [] = some (vnum x, 0) := by
      show (if (4 : Int) = 1 then _ else if (4 : Int) = 3 then _ else if (4 : Int) = 4 then some (refR L s) else _) = _
      rw [if_neg (by decide), if_neg (by decide), if_pos rfl]
      unfold refR
      rw [hx]
    have e2 : ∀ vs, madeS L (⟨1, 1, ⟨#[]⟩, [], []⟩ : NodeL) vs = some (vnum 1, 0) := fun vs => by
      show (if (1 : Int) = 1 then some (VL.mk 1 1 ⟨#[]⟩ [], (0 : Int)) else _) = _
      rw [if_pos rfl]; rfl
    have e3 : madeS L (⟨19, 0, ⟨#[]⟩, [], [0, 1]⟩ : NodeL) [vnum x, vnum 1] = some (vnum (x + 1), 0) := by
      show (if (19 : Int) = 1 then _ else if (19 : Int) = 3 then _ else if (19 : Int) = 4 then _ else if (19 : Int) = 19 then some (twoR 0 19 (vnum x) (vnum 1)) else none) = _
      rw [if_neg (by decide), if_neg (by decide), if_neg (by decide), if_pos rfl]
      unfold twoR
      rw [if_neg (by omega), if_neg (by omega), if_neg (by omega), if_pos (by omega), if_pos ⟨rfl, rfl⟩]
      show some (numR (fitR (x + 1))) = _
      rw [fit_in (by omega)]
      rfl
    show (if (0 : Nat) ≤ 0 then (madeS L (refOne s) []).bind fun r => if r.2 ≠ 0 ∨ _ = [] then some r else evR (madeS L) [(⟨1, 1, ⟨#[]⟩, [], []⟩ : NodeL), ⟨19, 0, ⟨#[]⟩, [], [0, 1]⟩] ([] ++ [r.1]) else none) = _
    rw [if_pos (Nat.le_refl _), e1]
    show (if (0 : Int) ≠ 0 ∨ ([(⟨1, 1, ⟨#[]⟩, [], []⟩ : NodeL), ⟨19, 0, ⟨#[]⟩, [], [0, 1]⟩] : List NodeL) = [] then some (vnum x, (0 : Int)) else evR (madeS L) [(⟨1, 1, ⟨#[]⟩, [], []⟩ : NodeL), ⟨19, 0, ⟨#[]⟩, [], [0, 1]⟩] [vnum x]) = _
    rw [if_neg (by simp)]
    show (if (0 : Nat) ≤ 1 then (madeS L (⟨1, 1, ⟨#[]⟩, [], []⟩ : NodeL) []).bind fun r => if r.2 ≠ 0 ∨ _ = [] then some r else evR (madeS L) [(⟨19, 0, ⟨#[]⟩, [], [0, 1]⟩ : NodeL)] ([vnum x] ++ [r.1]) else none) = _
    rw [if_pos (by omega), e2]
    show (if (0 : Int) ≠ 0 ∨ ([(⟨19, 0, ⟨#[]⟩, [], [0, 1]⟩ : NodeL)] : List NodeL) = [] then some (vnum 1, (0 : Int)) else evR (madeS L) [(⟨19, 0, ⟨#[]⟩, [], [0, 1]⟩ : NodeL)] [vnum x, vnum 1]) = _
    rw [if_neg (by simp)]
    show (if (2 : Nat) ≤ 2 then (madeS L (⟨19, 0, ⟨#[]⟩, [], [0, 1]⟩ : NodeL) [vnum x, vnum 1]).bind fun r => if r.2 ≠ 0 ∨ ([] : List NodeL) = [] then some r else evR (madeS L) [] _ else none) = _
    rw [if_pos (by omega), e3]
    simp
  leaf := by simp [vnum, VL.kind]
  keep := fun _ _ _ _ => trivial
theorem locName_A (i : Nat) : locName (nameA i) = locA i := by
  unfold locName nameA locA locB
  apply ByteArray.ext
  simp [ByteArray.data_append]
theorem scopeL_leaf (al : List (ByteArray × List NodeL)) (out : List Int) (vq : Nat → VL) (L0 : ByteArray → Option VL) (h0 : LeafL L0) (hv : ∀ q, I64 (vq q).num ∧ (vq q).kids = []) : ∀ q, LeafL (scopeL al out vq L0 q) := by
  intro q
  induction q with
  | zero => exact h0
  | succ q ih =>
    unfold scopeL
    split
    · split
      · intro y v h
        dsimp only at h
        split at h
        · cases h; exact hv q
        · exact ih y v h
      · exact ih
    · exact ih
theorem doneE {k : Nat} (vq : Nat → VL) : ∀ q, q ≤ k → ∀ i, i < k → (doneL (attrsE k) (revK k) vq q)[i]? = some (if k - q ≤ i then (locA i, vq (k - 1 - i)) else (⟨#[]⟩, vz)) := by
  intro q
  induction q with
  | zero =>
    intro _ i hi
    rw [if_neg (by omega), doneL, attrsE_len, List.getElem?_replicate, if_pos hi]
  | succ q ih =>
    intro hq i hi
    rw [doneL, revK_get (by omega)]
    dsimp only
    rw [Int.toNat_natCast, attrsE_get (by omega)]
    dsimp only
    by_cases hik : i = k - 1 - q
    · rw [hik, List.getElem?_set_self (by rw [doneL_len, attrsE_len]; omega), if_pos (by omega), locName_A, show k - 1 - (k - 1 - q) = q by omega]
    · rw [List.getElem?_set_ne (Ne.symm hik), ih (by omega) i hi]
      by_cases h2 : k - q ≤ i
      · rw [if_pos h2, if_pos (by omega)]
      · rw [if_neg h2, if_neg (by omega)]
end Go.Proofs.YtdaphajnioiakaaGreatDoor
namespace Go.Proofs.YtdaphajnioiakaaGreatDoor
open Go.RowKit
set_option linter.unusedVariables false
set_option linter.unusedSimpArgs false
theorem info_attrE : (Tryz.prog.info? 36).map (fun i => (i.zero, i.size, i.bytes)) = some (some (.agg #[.string ⟨#[]⟩, .slice none 0 0]), 2, 40) := by kernel_rfl
def SumAt (w : World) (g : Nat) (s : ByteArray) : Prop := ∃ gk, w.heap[gk]? = some (.cells #[.int .i64 0, .int .i64 1] 3) ∧
  w.heap[g]? = some (.cells #[.int .i64 4, .int .i64 0, .string s, .slice none 0 0, .slice none 0 0, .int .i64 1, .int .i64 1, .string ⟨#[]⟩, .slice none 0 0, .slice none 0 0, .int .i64 19, .int .i64 0, .string ⟨#[]⟩, .slice none 0 0, .slice (some ⟨gk, 0, none⟩) 2 2] 41)
/-- The nodes of an attribute, in blocks of their own. -/
def TreeB (w : World) (g : Nat) (ns : List NodeL) : Prop := (∃ n, ns = [n] ∧ NodeAt w g n) ∨ (∃ s, ns = sumN s ∧ SumAt w g s)
theorem TreeB.rd {w : World} {g : Nat} {ns : List NodeL} (h : TreeB w g ns) : NodesRd w (.slice (some ⟨g, 0, none⟩) ns.length ns.length) ns := by
  rcases h with ⟨n, rfl, h⟩ | ⟨s, rfl, gk, h1, h2⟩
  · exact h.rd
  · exact nodesB (ns := sumN s) h2 ⟨.slice none 0 0, .slice none 0 0, _, rfl, parts_nil _ _ _, places_nil _ _ _, .slice none 0 0, .slice none 0 0, _, rfl, parts_nil _ _ _, places_nil _ _ _, .slice none 0 0, .slice (some ⟨gk, 0, none⟩) 2 2, [], rfl, parts_nil _ _ _, places_of_block (ks := [0, 1]) h1, rfl⟩
theorem TreeB.move {w w' : World} {g : Nat} {ns : List NodeL} (h : TreeB w g ns) (hm : ∀ (k : Nat) (c : Array Value) (t : TypeId), w.heap[k]? = some (Obj.cells c t) → t = 41 ∨ t = 3 → w'.heap[k]? = w.heap[k]?) : TreeB w' g ns := by
  rcases h with ⟨n, rfl, h⟩ | ⟨s, rfl, gk, h1, h2⟩
  · exact .inl ⟨n, rfl, h.1, h.2.1, (hm _ _ _ h.2.2 (.inl rfl)).trans h.2.2⟩
  · exact .inr ⟨s, rfl, gk, (hm _ _ _ h1 (.inr rfl)).trans h1, (hm _ _ _ h2 (.inl rfl)).trans h2⟩
theorem TreeB.below {w w' : World} {g : Nat} {ns : List NodeL} (h : TreeB w g ns) (hb : Below w.heap.size w w') : TreeB w' g ns := h.move fun k c t hk _ => hb.block k (Array.getElem?_eq_some_iff.1 hk).1
def AttrRowE (w : World) : List (ByteArray × List NodeL) → List Value → Prop
  | [], xs => xs = []
  | a :: al, xs => ∃ g rest, xs = .string a.1 :: .slice (some ⟨g, 0, none⟩) a.2.length a.2.length :: rest ∧ TreeB w g a.2 ∧ AttrRowE w al rest
theorem AttrRowE.snoc {w : World} {s : ByteArray} {ns : List NodeL} {g : Nat} (hn : TreeB w g ns) : ∀ {al : List (ByteArray × List NodeL)} {xs : List Value}, AttrRowE w al xs → AttrRowE w (al ++ [(s, ns)]) (xs ++ [.string s, .slice (some ⟨g, 0, none⟩) ns.length ns.length]) := by
  intro al
  induction al with
  | nil => intro xs h; obtain rfl : xs = [] := h; exact ⟨g, [], rfl, hn, rfl⟩
  | cons a al ih => intro xs h; obtain ⟨g', rest, rfl, h3, h4⟩ := h; exact ⟨g', rest ++ [.string s, .slice (some ⟨g, 0, none⟩) ns.length ns.length], rfl, h3, ih h4⟩
theorem AttrRowE.move {w w' : World} (hm : ∀ (k : Nat) (c : Array Value) (t : TypeId), w.heap[k]? = some (Obj.cells c t) → t = 41 ∨ t = 3 → w'.heap[k]? = w.heap[k]?) : ∀ {al : List (ByteArray × List NodeL)} {xs : List Value}, AttrRowE w al xs → AttrRowE w' al xs := by
  intro al
  induction al with
  | nil => intro xs h; exact h
  | cons a al ih => intro xs h; obtain ⟨g', rest, rfl, h3, h4⟩ := h; exact ⟨g', rest, rfl, h3.move hm, ih h4⟩
theorem AttrRowE.get {w : World} : ∀ {al : List (ByteArray × List NodeL)} {xs : List Value}, AttrRowE w al xs → ∀ {i : Nat} {a : ByteArray × List NodeL}, al[i]? = some a → ∃ g, xs[i * 2]? = some (.string a.1) ∧ xs[i * 2 + 1]? = some (.slice (some ⟨g, 0, none⟩) a.2.length a.2.length) ∧ TreeB w g a.2 := by
  intro al
  induction al with
  | nil => intro xs h i a hi; simp at hi
  | cons b al ih =>
    intro xs h i a hi
    obtain ⟨g', rest, rfl, h3, h4⟩ := h
    cases i with
    | zero => simp at hi; subst hi; exact ⟨g', rfl, rfl, h3⟩
    | succ i =>
      obtain ⟨g, q1, q2, q4⟩ := ih h4 (by simpa using hi)
      refine ⟨g, ?_, ?_, q4⟩
      · rw [← q1, show (i + 1) * 2 = (i * 2 + 1) + 1 by omega]; rfl
      · rw [← q2, show (i + 1) * 2 + 1 = (i * 2 + 1 + 1) + 1 by omega]; rfl
def AttrsBE (w : World) (B : Nat) (lv : Value) (al : List (ByteArray × List NodeL)) : Prop := ∃ xs, w.ownsRow B 36 2 lv al.length xs ∧ AttrRowE w al xs
theorem AttrsBE.below {w w' : World} {B : Nat} {lv : Value} {al : List (ByteArray × List NodeL)} (h : AttrsBE w B lv al) (hb : Below w.heap.size w w') : AttrsBE w' B lv al := by
  obtain ⟨xs, h1, h2⟩ := h
  exact ⟨xs, own_below h1 hb, h2.move (fun k c t hk _ => hb.block k (Array.getElem?_eq_some_iff.1 hk).1)⟩
theorem AttrsBE.app {w w1 : World} {B : Nat} {lv lv' : Value} {al : List (ByteArray × List NodeL)} {xs : List Value} {s : ByteArray} {ns : List NodeL} {g : Nat} (h1 : w.ownsRow B 36 2 lv al.length xs) (h2 : AttrRowE w al xs) (hn : TreeB w g ns) (hg : w.grownBy w1 lv.ownBlock)
    (ho : w1.ownsRow B 36 2 lv' (al.length + 1) (xs ++ [.string s, .slice (some ⟨g, 0, none⟩) ns.length ns.length])) : AttrsBE w1 B lv' (al ++ [(s, ns)]) := by
  have mv : ∀ (k : Nat) (c : Array Value) (t : TypeId), w.heap[k]? = some (Obj.cells c t) → t = 41 ∨ t = 3 → w1.heap[k]? = w.heap[k]? := fun k c t hk ht => hg.block k (Array.getElem?_eq_some_iff.1 hk).1 (fun e => by
    obtain ⟨-, c2, hc⟩ := own_type h1 e.symm
    rcases ht with rfl | rfl
    · exact type_ne hc hk (by decide) rfl
    · exact type_ne hc hk (by decide) rfl)
  exact ⟨_, by rw [List.length_append]; exact ho, AttrRowE.snoc (hn.move mv) (h2.move mv)⟩
theorem AttrsBE.rd {w : World} {B : Nat} {lv : Value} {al : List (ByteArray × List NodeL)} (h : AttrsBE w B lv al) : AttrsRd w lv al := by
  obtain ⟨xs, h1, h2⟩ := h
  rcases h1.2 with ⟨rfl, h0⟩ | ⟨g, cap, cur, rfl, hB, hg, r⟩
  · obtain rfl : al = [] := List.eq_nil_of_length_eq_zero h0
    exact ⟨none, 0, rfl, fun i a hi => by simp at hi⟩
  · refine ⟨some ⟨g, 0, none⟩, cap, rfl, fun i a hi => ?_⟩
    obtain ⟨g', q1, q2, q4⟩ := h2.get hi
    have hlt := (List.getElem?_eq_some_iff.1 hi).1
    refine ⟨g, 0, some ⟨g', 0, none⟩, a.2.length, rfl, ?_, ?_, q4.rd⟩
    · rw [Nat.zero_add, World.ownsRow.cellAt h1 (i * 2) (by omega)]; exact q1
    · rw [Nat.zero_add, World.ownsRow.cellAt h1 (i * 2 + 1) (by omega)]; exact q2
theorem attrsE_take {k j : Nat} (hj : j < k) : (attrsE k).take (j + 1) = (attrsE k).take j ++ [(nameA j, nodesE k j)] := take_snocR (attrsE_get hj)
def LocsRel (w : World) (K : Nat) (m : Nat) (lv iv : Value) (wr : World) : Prop := ∃ j : Nat, iv = .int .i64 j ∧ K - j ≤ m ∧ j ≤ K ∧ AttrsBE wr w.heap.size lv ((attrsE K).take j) ∧ Below w.heap.size w wr
theorem binds_of_bs {w : World} {g cap : Nat} {l : List (ByteArray × VL)} {t : TypeId} (h : w.heap[g]? = some (.cells (bsCells l).toArray t (0, 0))) (hk : ∀ b ∈ l, b.2.kids = []) : BindsRd w 0 (.slice (some ⟨g, 0, none⟩) l.length cap) l := by
  refine ⟨some ⟨g, 0, none⟩, cap, rfl, fun i b hi => ?_⟩
  have k := fun r hr => (cell_of_row w g (i * 5 + r) _ t (0, 0) h).trans (by simpa using bsCells_at l i b hi r hr)
  have hkb := hk b (List.mem_of_getElem? hi)
  exact ⟨g, 0, none, 0, rfl, by rw [Nat.zero_add]; exact k 0 (by omega), by rw [Nat.zero_add]; exact k 1 (by omega), by rw [Nat.zero_add]; exact k 2 (by omega), by rw [Nat.zero_add]; exact k 3 (by omega), by rw [Nat.zero_add, hkb]; exact k 4 (by omega), by rw [hkb]; exact RowRd.nil _ _ _ _⟩
/-- 'local.a1'. -/
def loc1 : ByteArray := ⟨#[108, 111, 99, 97, 108, 46, 97, 49]⟩
def bindsE (st : Int) : List (ByteArray × VL) := [(loc1, vnum 99), (varS, vnum st)]
theorem bindsE_leaf {st : Int} (hst : -32768 ≤ st ∧ st ≤ 32767) : LeafL (lookL (bindsE st)) := fun x v hv => by
  unfold lookL at hv
  obtain ⟨p, hp, rfl⟩ := Option.map_eq_some_iff.1 hv
  have := List.mem_of_find?_eq_some hp
  simp only [bindsE, List.mem_cons, List.not_mem_nil, or_false] at this
  rcases this with rfl | rfl
  · exact ⟨(by show _ ≤ (99 : Int) ∧ (99 : Int) ≤ _; omega), rfl⟩
  · exact ⟨(by show _ ≤ st ∧ st ≤ _; omega), rfl⟩
theorem bindsE_start (st : Int) : lookL (bindsE st) varS = some (vnum st) := by
  unfold lookL bindsE
  rw [List.find?_cons_of_neg (by simp [loc1, varS]), List.find?_cons_of_pos (by simp)]
  rfl
theorem vqE {st : Int} (hst : -32768 ≤ st ∧ st ≤ 32767) (k : Nat) (hk : k < 15) (q : Nat) : I64 (vnum (st + (min q k : Nat))).num ∧ (vnum (st + (min q k : Nat))).kids = [] := by
  refine ⟨?_, rfl⟩
  show _ ≤ st + (min q k : Nat) ∧ st + (min q k : Nat) ≤ _
  omega
theorem walkE {st : Int} (hst : -32768 ≤ st ∧ st ≤ 32767) {k : Nat} (hk : k < 15) (q p : Nat) (a : ByteArray × List NodeL) (hq : (revK k)[q]? = some (p : Int)) (ha : (attrsE k)[p]? = some a) :
    ∃ M, Walk (fun _ => True) (scopeL (attrsE k) (revK k) (fun q => vnum (st + (min q k : Nat))) (lookL (bindsE st)) q) a.2 M (vnum (st + (min q k : Nat)), 0) := by
  have hqk : q < k := by have := (List.getElem?_eq_some_iff.1 hq).1; rwa [revK_len] at this
  rw [revK_get hqk] at hq
  have hp : p = k - 1 - q := by have := Option.some.inj hq; omega
  rw [attrsE_get (by omega)] at ha
  cases ha
  have LF := scopeL_leaf (attrsE k) (revK k) (fun q => vnum (st + (min q k : Nat))) _ (bindsE_leaf hst) (vqE hst k hk) q
  refine ⟨madeS (scopeL (attrsE k) (revK k) (fun q => vnum (st + (min q k : Nat))) (lookL (bindsE st)) q), ?_⟩
  show Walk _ _ (nodesE k p) _ _
  unfold nodesE
  by_cases h0 : q = 0
  · subst h0
    rw [if_pos (by omega)]
    refine ref_walk varS (by show (9 : Nat) ≤ maxLen; unfold maxLen; omega) _ LF _ ?_
    show lookL (bindsE st) varS = _
    rw [bindsE_start]
    simp
  · rw [if_neg (by omega)]
    obtain ⟨q', rfl⟩ : ∃ q', q = q' + 1 := ⟨q - 1, by omega⟩
    have e : st + (min (q' + 1) k : Nat) = (st + (min q' k : Nat)) + 1 := by omega
    rw [e]
    refine sum_walk (locA (p + 1)) (by have := locA_size (p + 1); unfold maxLen; omega) _ LF (st + (min q' k : Nat)) ?_ (by omega)
    show scopeL (attrsE k) (revK k) (fun q => vnum (st + (min q k : Nat))) (lookL (bindsE st)) (q' + 1) (locA (p + 1)) = _
    rw [scopeL, revK_get (by omega)]
    dsimp only
    rw [Int.toNat_natCast, attrsE_get (by omega)]
    dsimp only
    rw [locName_A, if_pos (by congr 1; omega)]
section
variable (w : World)
set_option maxHeartbeats 4000000 in
set_option maxRecDepth 20000 in
theorem law_locals (n : Nat) (st : Int) (hn : n < 256) (hst : -32768 ≤ st ∧ st ≤ 32767) (hv : ErrVar w) : Calls Tryz.prog 5 #[.int .u8 n, .int .i16 st] w (Made (.bool true) w) := by
  obtain ⟨i0, hi0, hz0, hz1, hz2⟩ := info_parts info_attrE
  have V := Lib.hid hv
  clear hv
  go_enter Tryz.func5, Tryz.ntmps5
  go_wp2_with fail
  obtain ⟨K, hK⟩ : ∃ K : Nat, K = 1 + n % 14 := ⟨_, rfl⟩
  rw [show (1 + (n : Int) % 14) = (K : Int) by omega]
  have hK2 : 1 ≤ K ∧ K < 15 := by omega
  clear hK
  go_loopg [6, 7] K (fun m lv iv wr => LocsRel w K m lv iv wr)
  case atStart => exact ⟨0, rfl, Nat.le_refl _, Nat.zero_le _, ⟨[], World.ownsRow_nil _ _ _ _, rfl⟩, Below.refl _ _⟩
  case round =>
    obtain ⟨j, rfl, hm, hj, ha, hb⟩ := hrel
    have HM := Lib.hid hm
    have HA := Lib.hid ha
    have BB := Lib.hid hb
    clear hm ha hb
    by_cases hjl : j < K
    · have D1 : ∀ W, Calls Tryz.prog 11 #[.int .i64 ((j : Int) + 1)] W (Made (.string ⟨(dec2 (j + 1)).toArray⟩) W) := fun W => by
        have := rdigs_pos W (j + 1) (by omega)
        rw [dec2_eq (by omega)] at this
        exact this
      have D0 : ∀ W, Calls Tryz.prog 11 #[.int .i64 (j : Int)] W (Made (.string ⟨(dec2 j).toArray⟩) W) := fun W => by
        have := rdigs_pos W j (by omega)
        rw [dec2_eq (by omega)] at this
        exact this
      have D1h := Lib.hid D1
      have D0h := Lib.hid D0
      clear D1 D0
      go_wp2_with fail
      refine (D1h.out _).mono ?_
      rintro e w1 ⟨rfl, hb1⟩
      have A1 := Lib.hid (HA.out.below hb1)
      have B1 := Lib.hid (BB.out.trans (hb1.mono BB.out.size))
      clear hb1
      have hd1 : (⟨(dec2 (j + 1)).toArray⟩ : ByteArray).size ≤ 2 := by
        show (dec2 (j + 1)).toArray.size ≤ 2
        rw [List.size_toArray]; unfold dec2; split <;> simp
      have hd0 : (⟨(dec2 j).toArray⟩ : ByteArray).size ≤ 2 := by
        show (dec2 j).toArray.size ≤ 2
        rw [List.size_toArray]; unfold dec2; split <;> simp
      have E1 := Lib.hid (show (⟨#[108, 111, 99, 97, 108, 46, 97]⟩ : ByteArray) ++ ⟨(dec2 (j + 1)).toArray⟩ = locA (j + 1) from rfl)
      have E0 := Lib.hid (show (⟨#[97]⟩ : ByteArray) ++ ⟨(dec2 j).toArray⟩ = nameA j from rfl)
      generalize (⟨(dec2 (j + 1)).toArray⟩ : ByteArray) = d1 at *
      generalize (⟨(dec2 j).toArray⟩ : ByteArray) = d0 at *
      have hs1 : (⟨#[108, 111, 99, 97, 108, 46, 97]⟩ : ByteArray).size = 7 := rfl
      have hs0 : (⟨#[97]⟩ : ByteArray).size = 1 := rfl
      have hss : 7 + d1.size ≤ 9223372036854775807 := by omega
      by_cases hjk : j + 1 = K
      · have gq : ((j : Int) == (K : Int) - 1) = true := by simp; omega
        have EN := Lib.hid (show nodesE K j = [refOne varS] by unfold nodesE; rw [if_pos hjk])
        have hjk' := Lib.hid hjk
        clear hjk
        go_wp2_with fail
        rw [E1.out]
        obtain ⟨z0, z1, z2⟩ := three_new w1 (.cells #[.int .i64 0, .int .i64 1] 3) (.cells #[.int .i64 4, .int .i64 0, .string (locA (j + 1)), .slice none 0 0, .slice none 0 0, .int .i64 1, .int .i64 1, .string ⟨#[]⟩, .slice none 0 0, .slice none 0 0, .int .i64 19, .int .i64 0, .string ⟨#[]⟩, .slice none 0 0, .slice (some ⟨w1.heap.size, 0, none⟩) 2 2] 41) (.cells #[.int .i64 4, .int .i64 0, .string ⟨#[118, 97, 114, 46, 115, 116, 97, 114, 116]⟩, .slice none 0 0, .slice none 0 0] 41)
        have BZ := Lib.hid (below_al (below_al (below_al (Below.refl w1.heap.size w1) (.cells #[.int .i64 0, .int .i64 1] 3)) (.cells #[.int .i64 4, .int .i64 0, .string (locA (j + 1)), .slice none 0 0, .slice none 0 0, .int .i64 1, .int .i64 1, .string ⟨#[]⟩, .slice none 0 0, .slice none 0 0, .int .i64 19, .int .i64 0, .string ⟨#[]⟩, .slice none 0 0, .slice (some ⟨w1.heap.size, 0, none⟩) 2 2] 41)) (.cells #[.int .i64 4, .int .i64 0, .string ⟨#[118, 97, 114, 46, 115, 116, 97, 114, 116]⟩, .slice none 0 0, .slice none 0 0] 41))
        have NX := Lib.hid (show TreeB (((w1.alloc (.cells #[.int .i64 0, .int .i64 1] 3)).alloc (.cells #[.int .i64 4, .int .i64 0, .string (locA (j + 1)), .slice none 0 0, .slice none 0 0, .int .i64 1, .int .i64 1, .string ⟨#[]⟩, .slice none 0 0, .slice none 0 0, .int .i64 19, .int .i64 0, .string ⟨#[]⟩, .slice none 0 0, .slice (some ⟨w1.heap.size, 0, none⟩) 2 2] 41)).alloc (.cells #[.int .i64 4, .int .i64 0, .string ⟨#[118, 97, 114, 46, 115, 116, 97, 114, 116]⟩, .slice none 0 0, .slice none 0 0] 41)) (w1.heap.size + 1 + 1) (nodesE K j) from by rw [EN.out]; exact .inl ⟨refOne varS, rfl, rfl, rfl, z2⟩)
        have AX := Lib.hid (A1.out.below BZ.out)
        have BX := Lib.hid (B1.out.trans (BZ.out.mono B1.out.size))
        clear z0 z1 z2 BZ
        refine (D0h.out _).mono ?_
        rintro e w2 ⟨rfl, hb2⟩
        have A2 := Lib.hid (AX.out.below hb2)
        have N2 := Lib.hid (show TreeB w2 (w1.heap.size + 1 + 1) (nodesE K j) from NX.out.below hb2)
        have B2 := Lib.hid (BX.out.trans (hb2.mono BX.out.size))
        clear hb2
        obtain ⟨xs, ho2, hr2⟩ := A2.out
        have HO := Lib.hid ho2
        have HR := Lib.hid hr2
        have hlt : ((attrsE K).take j).length ≤ 100 := by rw [List.length_take]; omega
        have TK := Lib.hid (attrsE_take hjl)
        obtain ⟨lo, lc, rfl⟩ := own_lenR ho2
        clear ho2 hr2 AX NX BX HA A1 A2
        generalize (attrsE K).take j = al at *
        generalize hml : al.length = ml at *
        have HML := Lib.hid hml
        clear hml
        go_wp2_with (at_builtin; refine wpList_append_lies _ rfl _ _ 24 rfl w.heap.size 36 i0 _ 2 40 Tryz.underlying24 hi0 hz0 hz1 hz2 rfl (by decide) (.slice lo ml lc) ml xs rfl (World.ownsRow.alloc HO.out _) ⟨w2.heap.size, 0, none⟩ 1 1 [.string (⟨#[97]⟩ ++ d0), .slice (some ⟨w1.heap.size + 1 + 1, 0, none⟩) 1 1] rfl rfl (by exact news_new w2 #[.string (⟨#[97]⟩ ++ d0), .slice (some ⟨w1.heap.size + 1 + 1, 0, none⟩) 1 1] 36) (by simp [Value.oneCell']) (by decide) (by unfold maxLen; omega) (by omega) (by have := B2.out.size; simp; omega) (w2.heap.size + 1) (by simp) ?_; intro g5 c5 w5 hown5 hgrow5 hat5 hlt5)
        have A5 := Lib.hid (show AttrsBE w5 w.heap.size (.slice (some ⟨g5, 0, none⟩) (ml + 1) c5) ((attrsE K).take (j + 1)) by
          rw [TK.out, ← E0.out]
          obtain rfl := HML.out
          exact AttrsBE.app HO.out HR.out N2.out (grown_trans (World.grownBy_alloc w2 _ _) hgrow5) (by rw [EN.out]; exact hown5))
        have B5 := Lib.hid (Below.grown B2.out (grown_trans (World.grownBy_alloc w2 _ _) hgrow5) B2.out.size (fun k hk => (World.ownsRow.lt HO.out k hk).1))
        clear hown5 hgrow5 hat5 hlt5
        go_roundg (K - (j + 1))
        case rel => exact ⟨j + 1, rfl, Nat.le_refl _, hjl, A5.out, B5.out⟩
        case measure => have := HM.out; omega
      · have gq : ((j : Int) == (K : Int) - 1) = false := by simp; omega
        have EN := Lib.hid (show nodesE K j = sumN (locA (j + 1)) by unfold nodesE; rw [if_neg hjk])
        clear hjk
        go_wp2_with fail
        rw [E1.out]
        have z0 : ((w1.alloc (.cells #[.int .i64 0, .int .i64 1] 3)).alloc (.cells #[.int .i64 4, .int .i64 0, .string (locA (j + 1)), .slice none 0 0, .slice none 0 0, .int .i64 1, .int .i64 1, .string ⟨#[]⟩, .slice none 0 0, .slice none 0 0, .int .i64 19, .int .i64 0, .string ⟨#[]⟩, .slice none 0 0, .slice (some ⟨w1.heap.size, 0, none⟩) 2 2] 41)).heap[w1.heap.size]? = some (.cells #[.int .i64 0, .int .i64 1] 3) := (Below.block (below_al (Below.refl _ _) _) w1.heap.size (by simp)).trans (heap_alloc_new w1 _)
        have z1 : ((w1.alloc (.cells #[.int .i64 0, .int .i64 1] 3)).alloc (.cells #[.int .i64 4, .int .i64 0, .string (locA (j + 1)), .slice none 0 0, .slice none 0 0, .int .i64 1, .int .i64 1, .string ⟨#[]⟩, .slice none 0 0, .slice none 0 0, .int .i64 19, .int .i64 0, .string ⟨#[]⟩, .slice none 0 0, .slice (some ⟨w1.heap.size, 0, none⟩) 2 2] 41)).heap[w1.heap.size + 1]? = some (.cells #[.int .i64 4, .int .i64 0, .string (locA (j + 1)), .slice none 0 0, .slice none 0 0, .int .i64 1, .int .i64 1, .string ⟨#[]⟩, .slice none 0 0, .slice none 0 0, .int .i64 19, .int .i64 0, .string ⟨#[]⟩, .slice none 0 0, .slice (some ⟨w1.heap.size, 0, none⟩) 2 2] 41) := heap_at (by simp)
        have BZ := Lib.hid (below_al (below_al (Below.refl w1.heap.size w1) (.cells #[.int .i64 0, .int .i64 1] 3)) (.cells #[.int .i64 4, .int .i64 0, .string (locA (j + 1)), .slice none 0 0, .slice none 0 0, .int .i64 1, .int .i64 1, .string ⟨#[]⟩, .slice none 0 0, .slice none 0 0, .int .i64 19, .int .i64 0, .string ⟨#[]⟩, .slice none 0 0, .slice (some ⟨w1.heap.size, 0, none⟩) 2 2] 41))
        have NX := Lib.hid (show TreeB ((w1.alloc (.cells #[.int .i64 0, .int .i64 1] 3)).alloc (.cells #[.int .i64 4, .int .i64 0, .string (locA (j + 1)), .slice none 0 0, .slice none 0 0, .int .i64 1, .int .i64 1, .string ⟨#[]⟩, .slice none 0 0, .slice none 0 0, .int .i64 19, .int .i64 0, .string ⟨#[]⟩, .slice none 0 0, .slice (some ⟨w1.heap.size, 0, none⟩) 2 2] 41)) (w1.heap.size + 1) (nodesE K j) from by rw [EN.out]; exact .inr ⟨locA (j + 1), rfl, w1.heap.size, z0, z1⟩)
        have AX := Lib.hid (A1.out.below BZ.out)
        have BX := Lib.hid (B1.out.trans (BZ.out.mono B1.out.size))
        clear z0 z1 BZ
        refine (D0h.out _).mono ?_
        rintro e w2 ⟨rfl, hb2⟩
        have A2 := Lib.hid (AX.out.below hb2)
        have N2 := Lib.hid (show TreeB w2 (w1.heap.size + 1) (nodesE K j) from NX.out.below hb2)
        have B2 := Lib.hid (BX.out.trans (hb2.mono BX.out.size))
        clear hb2
        obtain ⟨xs, ho2, hr2⟩ := A2.out
        have HO := Lib.hid ho2
        have HR := Lib.hid hr2
        have hlt : ((attrsE K).take j).length ≤ 100 := by rw [List.length_take]; omega
        have TK := Lib.hid (attrsE_take hjl)
        obtain ⟨lo, lc, rfl⟩ := own_lenR ho2
        clear ho2 hr2 AX NX BX HA A1 A2
        generalize (attrsE K).take j = al at *
        generalize hml : al.length = ml at *
        have HML := Lib.hid hml
        clear hml
        go_wp2_with (at_builtin; refine wpList_append_lies _ rfl _ _ 24 rfl w.heap.size 36 i0 _ 2 40 Tryz.underlying24 hi0 hz0 hz1 hz2 rfl (by decide) (.slice lo ml lc) ml xs rfl (World.ownsRow.alloc HO.out _) ⟨w2.heap.size, 0, none⟩ 1 1 [.string (⟨#[97]⟩ ++ d0), .slice (some ⟨w1.heap.size + 1, 0, none⟩) 3 3] rfl rfl (by exact news_new w2 #[.string (⟨#[97]⟩ ++ d0), .slice (some ⟨w1.heap.size + 1, 0, none⟩) 3 3] 36) (by simp [Value.oneCell']) (by decide) (by unfold maxLen; omega) (by omega) (by have := B2.out.size; simp; omega) (w2.heap.size + 1) (by simp) ?_; intro g5 c5 w5 hown5 hgrow5 hat5 hlt5)
        have A5 := Lib.hid (show AttrsBE w5 w.heap.size (.slice (some ⟨g5, 0, none⟩) (ml + 1) c5) ((attrsE K).take (j + 1)) by
          rw [TK.out, ← E0.out]
          obtain rfl := HML.out
          exact AttrsBE.app HO.out HR.out N2.out (grown_trans (World.grownBy_alloc w2 _ _) hgrow5) (by rw [EN.out]; exact hown5))
        have B5 := Lib.hid (Below.grown B2.out (grown_trans (World.grownBy_alloc w2 _ _) hgrow5) B2.out.size (fun k hk => (World.ownsRow.lt HO.out k hk).1))
        clear hown5 hgrow5 hat5 hlt5
        go_roundg (K - (j + 1))
        case rel => exact ⟨j + 1, rfl, Nat.le_refl _, hjl, A5.out, B5.out⟩
        case measure => have := HM.out; omega
    · have hz : j = K := by omega
      subst hz
      have AF := Lib.hid (show AttrsBE wr w.heap.size u6 (attrsE j) from by have := HA.out; rwa [List.take_of_length_le (by rw [attrsE_len]; exact Nat.le_refl _)] at this)
      go_wp2_with fail
      refine (pbind _ _ _).mono ?_
      rintro e w1 ⟨rfl, hb1⟩
      go_wp2_with fail
      refine (pbind _ _ _).mono ?_
      rintro e w2 ⟨rfl, hb2⟩
      have B2 := Lib.hid (below_tr (below_tr BB.out hb1) hb2)
      have A2 := Lib.hid ((AF.out.below hb1).below hb2)
      clear hb1 hb2
      go_wp2_with fail
      have BZ := Lib.hid (below_al (Below.refl w2.heap.size w2) (.cells #[.string ⟨#[108, 111, 99, 97, 108, 46, 97, 49]⟩, .int .i64 1, .int .i64 99, .string ⟨#[]⟩, .slice none 0 0, .string ⟨#[118, 97, 114, 46, 115, 116, 97, 114, 116]⟩, .int .i64 1, .int .i64 st, .string ⟨#[]⟩, .slice none 0 0] 52))
      have hbd := heap_alloc_new w2 (.cells #[.string ⟨#[108, 111, 99, 97, 108, 46, 97, 49]⟩, .int .i64 1, .int .i64 99, .string ⟨#[]⟩, .slice none 0 0, .string ⟨#[118, 97, 114, 46, 115, 116, 97, 114, 116]⟩, .int .i64 1, .int .i64 st, .string ⟨#[]⟩, .slice none 0 0] 52)
      have BR := Lib.hid (show BindsRd (w2.alloc (.cells #[.string ⟨#[108, 111, 99, 97, 108, 46, 97, 49]⟩, .int .i64 1, .int .i64 99, .string ⟨#[]⟩, .slice none 0 0, .string ⟨#[118, 97, 114, 46, 115, 116, 97, 114, 116]⟩, .int .i64 1, .int .i64 st, .string ⟨#[]⟩, .slice none 0 0] 52)) 0 (.slice (some ⟨w2.heap.size, 0, none⟩) 2 2) (bindsE st) from binds_of_bs (l := bindsE st) hbd (fun b hb => by
        simp only [bindsE, List.mem_cons, List.not_mem_nil, or_false] at hb
        rcases hb with rfl | rfl <;> rfl))
      clear hbd
      have A3 := Lib.hid (A2.out.below BZ.out)
      have B3 := Lib.hid (below_tr B2.out BZ.out)
      generalize w2.alloc (.cells #[.string ⟨#[108, 111, 99, 97, 108, 46, 97, 49]⟩, .int .i64 1, .int .i64 99, .string ⟨#[]⟩, .slice none 0 0, .string ⟨#[118, 97, 114, 46, 115, 116, 97, 114, 116]⟩, .int .i64 1, .int .i64 st, .string ⟨#[]⟩, .slice none 0 0] 52) = w3 at *
      obtain ⟨rr, e1, e2, e3⟩ := rowE_row hK2.1 hK2.2
      have C := Lib.hid (pOrder w3 u6 (attrsE j) ((attrsE j).map fun a => rawN a.2) A3.out.rd (by rw [attrsE_len]; omega) (fun a ha => by
        obtain ⟨i, -, rfl⟩ := attrsE_mem ha
        have := nameA_size i
        show (nameA i).size ≤ _
        omega) (chkE_at hK2.1 hK2.2).2 (attrsE_trees hK2.2) (V.out.below B3.out V.out.lt) (by simp) (fun i a rs ha hrs => attrsE_refs ha hrs) rr e1 (revK j) e3)
      have PL := Lib.hid (pLocals w3 u6 (.slice (some ⟨w2.heap.size, 0, none⟩) 2 2) (attrsE j) A3.out.rd (by rw [attrsE_len]; omega) (fun a ha => by
        obtain ⟨i, -, rfl⟩ := attrsE_mem ha
        have := nameA_size i
        show (nameA i).size ≤ _
        omega) (bindsE st) BR.out (by simp [bindsE]) (fun b hb => by
          simp only [bindsE, List.mem_cons, List.not_mem_nil, or_false] at hb
          rcases hb with rfl | rfl
          · exact ⟨(by show _ ≤ (99 : Int) ∧ (99 : Int) ≤ _; omega), by show (8 : Nat) ≤ _; omega⟩
          · exact ⟨(by show _ ≤ st ∧ st ≤ _; omega), by show (9 : Nat) ≤ _; omega⟩) rr (revK j) C.out e2 (by rw [attrsE_len, revK_len]; exact Nat.le_refl _) (by rw [revK_len]; omega) (fun q x hx => by
          have hq : q < j := by have := (List.getElem?_eq_some_iff.1 hx).1; rwa [revK_len] at this
          rw [revK_get hq] at hx
          exact ⟨j - 1 - q, (Option.some.inj hx).symm, by rw [attrsE_len]; omega⟩) (fun q => vnum (st + (min q j : Nat))) (vqE hst j hK2.2) (fun q p a h1 h2 => walkE hst hK2.2 q p a h1 h2))
      rw [attrsE_len, revK_len] at PL
      clear e1 e2 e3 C
      refine PL.out.mono ?_
      rintro e w4 ⟨ga, rfl, hb4, ho4⟩
      have B4 := Lib.hid (below_tr B3.out hb4)
      have O4 := Lib.hid ho4
      clear hb4 ho4
      go_wp2_with fail
      refine (lnum _ _).mono ?_
      rintro e w5 ⟨rfl, rfl⟩
      go_wp2_with fail
      go_loopg [11] j (fun m iv wx => ∃ i : Nat, iv = .int .i64 i ∧ j - i ≤ m ∧ i ≤ j ∧ Hid (Below w4.heap.size w4 wx))
      case atStart => exact ⟨0, rfl, Nat.le_refl _, Nat.zero_le _, Lib.hid (Below.refl _ _)⟩
      case round =>
        obtain ⟨i, rfl, hm, hi, B5⟩ := hrel
        have HM2 := Lib.hid hm
        clear hm
        by_cases hil : i < j
        · have hd := doneE (k := j) (fun q => vnum (st + (min q j : Nat))) j (Nat.le_refl _) i hil
          rw [if_pos (by omega)] at hd
          have hcell := fun r (hr : r < 5) => (World.ownsRow.cellAt (own_below O4.out B5.out) (i * 5 + r) (by omega)).trans (bsCells_at _ i _ hd r hr)
          have k0 : wr.cell? ⟨ga, i * 5, none⟩ = some (.string (locA i)) := hcell 0 (by omega)
          have k2 : wr.cell? ⟨ga, i * 5 + 2, none⟩ = some (.int .i64 (st + (j : Int) - 1 - (i : Int))) := by
            rw [hcell 2 (by omega)]
            show some (Value.int .i64 (st + ((min (j - 1 - i) j : Nat) : Int))) = _
            congr 2
            omega
          have D0 : ∀ W, Calls Tryz.prog 11 #[.int .i64 (i : Int)] W (Made (.string ⟨(dec2 i).toArray⟩) W) := fun W => by
            have := rdigs_pos W i (by omega)
            rw [dec2_eq (by omega)] at this
            exact this
          have D0h := Lib.hid D0
          have hd0 : (⟨(dec2 i).toArray⟩ : ByteArray).size ≤ 2 := by
            show (dec2 i).toArray.size ≤ 2
            rw [List.size_toArray]; unfold dec2; split <;> simp
          have E1 : (⟨#[108, 111, 99, 97, 108, 46, 97]⟩ : ByteArray) ++ ⟨(dec2 i).toArray⟩ = locA i := rfl
          rw [← E1] at k0
          clear hd hcell D0 E1
          generalize (⟨(dec2 i).toArray⟩ : ByteArray) = d0 at *
          have hs1 : (⟨#[108, 111, 99, 97, 108, 46, 97]⟩ : ByteArray).size = 7 := rfl
          have hss : 7 + d0.size ≤ 9223372036854775807 := by omega
          have hss2 : ¬ 9223372036854775807 < 7 + d0.size := by omega
          have i0' : (0 : Int) ≤ (i : Int) := by omega
          have i1' : (i : Int) < (j : Int) := by omega
          have hst1 := hst.1
          have hst2 := hst.2
          have q1 : IntKind.i64.wrap st = st := by rw [IntKind.wrap_i64]; omega
          have q2 : IntKind.i64.wrap (st + (j : Int)) = st + (j : Int) := by rw [IntKind.wrap_i64]; omega
          have q3 : IntKind.i64.wrap (st + (j : Int) - 1) = st + (j : Int) - 1 := by rw [IntKind.wrap_i64]; omega
          have q4 : IntKind.i64.wrap (st + (j : Int) - 1 - (i : Int)) = st + (j : Int) - 1 - (i : Int) := by rw [IntKind.wrap_i64]; omega
          have K0 := Lib.hid k0
          have K2 := Lib.hid k2
          clear V hi0 hz0 hz1 hz2 AF A3 A2 BR B2 B3 BZ PL O4 HM BB
          go_wp2_with fail
          go_region_held3 (fun w' => w'.cell? ⟨ga, i * 5, none⟩ = some (.string (⟨#[108, 111, 99, 97, 108, 46, 97]⟩ ++ d0)) ∧ w'.cell? ⟨ga, i * 5 + 2, none⟩ = some (.int .i64 (st + (j : Int) - 1 - (i : Int)))) (first | exact ⟨hold B8.out K0.out, hold B8.out K2.out⟩ | go_keep) ((go_at_call 11; (with_reducible refine (D0h.out _).mono ?_); rintro e w7 ⟨rfl, hb7⟩; have hb8 : Below wr.heap.size wr w7 := ⟨hb7.os, hb7.tape, hb7.output, hb7.size, hb7.block⟩; have B8 := Lib.hid hb8; clear hb7 hb8))
          all_goals go_wp2
          all_goals go_roundg (j - (i + 1))
          all_goals first
            | (case rel => exact ⟨i + 1, rfl, Nat.le_refl _, hil, Lib.hid (below_tr B5.out B8.out)⟩)
            | (case measure => have := HM2.out; omega)
        · have hz : i = j := by omega
          subst hz
          go_wp2_with fail
          refine (law_awake7 _ (V.out.below (below_tr B4.out B5.out) V.out.lt)).mono ?_
          rintro e w7 ⟨rfl, hb7⟩
          have B7 := Lib.hid (below_tr (below_tr B4.out B5.out) hb7)
          clear hb7
          go_wp2_with fail
          go_ret
          exact ⟨rfl, B7.out⟩
end
end Go.Proofs.YtdaphajnioiakaaGreatDoor
