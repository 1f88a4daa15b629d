/- The law's example of references. -/
import Derived.Test.YtdaphajnioiakaaGreatDoorRcK
import Derived.Test.YtdaphajnioiakaaGreatDoorRfF
namespace Go.Proofs.YtdaphajnioiakaaGreatDoor
open Go.RowKit
set_option linter.unusedVariables false
set_option linter.unusedSimpArgs false
def dec2 (u : Nat) : List UInt8 := if u < 10 then [UInt8.ofNat (48 + u)] else [UInt8.ofNat (48 + u / 10), UInt8.ofNat (48 + u % 10)]
theorem dec2_eq {u : Nat} (h : u < 100) : Lib.decDigits u = dec2 u := by
  unfold dec2
  by_cases h1 : u < 10
  · rw [if_pos h1, Lib.decDigits_one h1]
  · rw [if_neg h1, Lib.decDigits, dif_neg h1, Lib.decDigits_one (by omega)]
    rfl
def nameA (i : Nat) : ByteArray := ⟨(97 :: dec2 i).toArray⟩
def locA (i : Nat) : ByteArray := ⟨(locB ++ 97 :: dec2 i).toArray⟩
def refOne (s : ByteArray) : NodeL := ⟨4, 0, s, [], []⟩
def lastN (h : Nat) : NodeL := if h = 0 then ⟨1, 0, ⟨#[]⟩, [], []⟩ else if h = 1 then refOne ⟨#[108, 111, 99, 97, 108, 46, 97, 48]⟩ else refOne ⟨#[108, 111, 99, 97, 108, 46, 110, 111, 110, 101]⟩
def nodeA (k h i : Nat) : NodeL := if i + 1 = k then lastN h else refOne (locA (i + 1))
def attrsA (k h : Nat) : List (ByteArray × List NodeL) := (List.range k).map fun i => (nameA i, [nodeA k h i])
def placeF (al : List (ByteArray × List NodeL)) (x : ByteArray) : Option Nat := al.findIdx? fun a => a.1.data.toList == x.data.toList
theorem placeL_eq (al : List (ByteArray × List NodeL)) : placeL al = placeF al := by
  funext x
  unfold placeL placeF
  congr 1
  funext a
  by_cases h : a.1 = x
  · simp [h]
  · have : ¬ a.1.data = x.data := fun e => h (ByteArray.ext e)
    simp [h, this]
def revK (k : Nat) : List Int := (List.range k).map fun i => ((k - 1 - i : Nat) : Int)
def chkA (k h : Nat) : Bool :=
  match rowAll (placeF (attrsA k h)) 0 ((attrsA k h).map fun a => rawN a.2) (List.replicate k 0) (List.replicate k []) with
  | some none => h == 2
  | some (some s) => match startE 0 s.1 [] with
    | some P0 => match ordE k s.2 50 P0 s.1 [] with
      | some out => if h = 0 then out == revK k else h == 1 && out == []
      | none => false
    | none => false
  | none => false
theorem chk_all : ((List.range 14).all fun k => decide (k < 2) || (List.range 3).all fun h => chkA k h && (List.range k).all fun j => placeF ((attrsA k h).take j) (nameA j) == none) = true := by kernel_rfl
theorem trees_all : ((List.range 15).all fun i => treeP [refOne (locA i)]) = true := by kernel_rfl
theorem trees_last : ((List.range 3).all fun h => treeP [lastN h]) = true := by kernel_rfl
theorem attrsA_len (k h : Nat) : (attrsA k h).length = k := by simp [attrsA]
theorem attrsA_get {k h i : Nat} (hi : i < k) : (attrsA k h)[i]? = some (nameA i, [nodeA k h i]) := by simp [attrsA, hi]
theorem attrsA_mem {k h : Nat} {a : ByteArray × List NodeL} (ha : a ∈ attrsA k h) : ∃ i, i < k ∧ a = (nameA i, [nodeA k h i]) := by
  unfold attrsA at ha
  obtain ⟨i, hi, rfl⟩ := List.mem_map.1 ha
  exact ⟨i, by simpa using hi, rfl⟩
theorem nameA_size (i : Nat) : (nameA i).size ≤ 100 := by
  show (97 :: dec2 i).toArray.size ≤ 100
  rw [List.size_toArray]
  unfold dec2
  split <;> simp
theorem locA_size (i : Nat) : (locA i).size ≤ 100 := by
  show (locB ++ 97 :: dec2 i).toArray.size ≤ 100
  rw [List.size_toArray]
  unfold dec2 locB
  split <;> simp
theorem lastN_plain (h : Nat) : (lastN h).parts = [] ∧ (lastN h).kids = [] ∧ (lastN h).text.size ≤ 100 := by
  unfold lastN
  by_cases h0 : h = 0
  · rw [if_pos h0]; exact ⟨rfl, rfl, by show (0 : Nat) ≤ 100; omega⟩
  · rw [if_neg h0]
    by_cases h1 : h = 1
    · rw [if_pos h1]; exact ⟨rfl, rfl, by show (8 : Nat) ≤ 100; omega⟩
    · rw [if_neg h1]; exact ⟨rfl, rfl, by show (10 : Nat) ≤ 100; omega⟩
theorem nodeA_plain (k h i : Nat) : (nodeA k h i).parts = [] ∧ (nodeA k h i).kids = [] ∧ (nodeA k h i).text.size ≤ 100 := by
  unfold nodeA
  by_cases h0 : i + 1 = k
  · rw [if_pos h0]; exact lastN_plain h
  · rw [if_neg h0]; exact ⟨rfl, rfl, locA_size _⟩
theorem nodeA_tree {k h i : Nat} (hk : k < 14) (hh : h < 3) (hi : i < k) : treeP [nodeA k h i] = true := by
  unfold nodeA
  by_cases h0 : i + 1 = k
  · rw [if_pos h0]
    exact List.all_eq_true.1 trees_last h (List.mem_range.2 hh)
  · rw [if_neg h0]
    exact List.all_eq_true.1 trees_all (i + 1) (List.mem_range.2 (by omega))
theorem attrsA_trees {k h : Nat} (hk : k < 14) (hh : h < 3) : TreesOK (attrsA k h) := by
  intro a ha
  obtain ⟨i, hi, rfl⟩ := attrsA_mem ha
  refine ⟨nodeA_tree hk hh hi, by simp, fun n hn => ?_⟩
  simp only [List.mem_singleton] at hn
  subst hn
  obtain ⟨h1, h2, h3⟩ := nodeA_plain k h i
  exact ⟨⟨by rw [h1]; simp, fun p hp => by rw [h1] at hp; cases hp⟩, by omega, by rw [h2]; simp⟩
theorem rawN_one (n : NodeL) : (rawN [n]).length ≤ 1 := by
  unfold rawN
  rw [List.length_map]
  exact List.length_filter_le _ _
theorem attrsA_refs {k h i : Nat} {a : ByteArray × List NodeL} {rs : List ByteArray} (ha : (attrsA k h)[i]? = some a) (hr : ((attrsA k h).map fun a => rawN a.2)[i]? = some rs) : RefsTo a.2 rs ∧ rs.length ≤ 100000 ∧ ∀ x ∈ rs, x.size ≤ 100000 := by
  rw [List.getElem?_map, ha] at hr
  have e : rawN a.2 = rs := Option.some.inj hr
  subst e
  obtain ⟨i, hi, rfl⟩ := attrsA_mem (List.mem_of_getElem? ha)
  obtain ⟨h1, h2, h3⟩ := nodeA_plain k h i
  refine ⟨fun W nv hnd => prefs W nv _ hnd (fun n hn => by simp only [List.mem_singleton] at hn; rw [hn]; exact h1) (by simp) (rawN_one _), by have := rawN_one (nodeA k h i); show (rawN [nodeA k h i]).length ≤ _; omega, fun x hx => ?_⟩
  unfold rawN at hx
  obtain ⟨n, hn, rfl⟩ := List.mem_map.1 hx
  have := (List.mem_filter.1 hn).1
  simp only [List.mem_singleton] at this
  rw [this]
  omega
theorem chk_at {k h : Nat} (h2 : 2 ≤ k) (hk : k < 14) (hh : h < 3) : chkA k h = true ∧ NamesOnce (attrsA k h) := by
  have q := List.all_eq_true.1 chk_all k (List.mem_range.2 hk)
  rw [Bool.or_eq_true] at q
  rcases q with q | q
  · simp at q; omega
  · have q2 := List.all_eq_true.1 q h (List.mem_range.2 hh)
    rw [Bool.and_eq_true] at q2
    refine ⟨q2.1, fun j a ha => ?_⟩
    have hj : j < k := by have := (List.getElem?_eq_some_iff.1 ha).1; rwa [attrsA_len] at this
    rw [attrsA_get hj] at ha
    cases ha
    have q3 := List.all_eq_true.1 q2.2 j (List.mem_range.2 hj)
    rw [placeL_eq]
    simpa using q3
/-- What Order makes of it. -/
theorem circle_row {k h : Nat} (h2 : 2 ≤ k) (hk : k < 14) (hh : h < 3) : ∃ r out, rowAll (placeL (attrsA k h)) 0 ((attrsA k h).map fun a => rawN a.2) (List.replicate (attrsA k h).length 0) (List.replicate (attrsA k h).length []) = some r ∧
    (∀ wt bh, r = some (wt, bh) → ∃ P0 fuel, startE 0 wt [] = some P0 ∧ ordE (attrsA k h).length bh fuel P0 wt [] = some out ∧ fuel ≤ 1000000) ∧ (h = 0 → r ≠ none ∧ out = revK k) ∧ (h = 1 → r ≠ none ∧ out = []) ∧ (h = 2 → r = none) := by
  have q := (chk_at h2 hk hh).1
  unfold chkA at q
  rw [placeL_eq, attrsA_len]
  cases hr : rowAll (placeF (attrsA k h)) 0 ((attrsA k h).map fun a => rawN a.2) (List.replicate k 0) (List.replicate k []) with
  | none => rw [hr] at q; cases q
  | some r =>
    rw [hr] at q
    cases r with
    | none =>
      have e : h = 2 := by simpa using q
      exact ⟨none, [], rfl, fun wt bh h => (by cases h), fun h0 => by omega, fun h0 => by omega, fun _ => rfl⟩
    | some s =>
      dsimp only at q
      cases hs : startE 0 s.1 [] with
      | none => rw [hs] at q; cases q
      | some P0 =>
        rw [hs] at q
        dsimp only at q
        cases ho : ordE k s.2 50 P0 s.1 [] with
        | none => rw [ho] at q; cases q
        | some out =>
          rw [ho] at q
          dsimp only at q
          refine ⟨some s, out, rfl, fun wt bh e => ?_, fun h0 => ⟨by simp, ?_⟩, fun h1 => ⟨by simp, ?_⟩, fun h2 => ?_⟩
          · cases e
            exact ⟨P0, 50, hs, ho, by omega⟩
          · rw [if_pos h0] at q; simpa using q
          · rw [if_neg (by omega)] at q
            simp only [Bool.and_eq_true] at q
            simpa using q.2
          · rw [if_neg (by omega)] at q
            simp only [Bool.and_eq_true, beq_iff_eq] at q
            omega
end Go.Proofs.YtdaphajnioiakaaGreatDoor
namespace Go.Proofs.YtdaphajnioiakaaGreatDoor
open Go.RowKit
set_option linter.unusedVariables false
set_option linter.unusedSimpArgs false
/-- One node alone at a block. -/
def NodeAt (w : World) (g : Nat) (n : NodeL) : Prop := n.parts = [] ∧ n.kids = [] ∧ w.heap[g]? = some (.cells #[.int .i64 n.kind, .int .i64 n.num, .string n.text, .slice none 0 0, .slice none 0 0] 41)
theorem nodesB {w : World} {g cap : Nat} {ns : List NodeL} {xs : Array Value} {t : TypeId} (h : w.heap[g]? = some (.cells xs t (0, 0))) (hr : NodesRow w ns xs.toList) : NodesRd w (.slice (some ⟨g, 0, none⟩) ns.length cap) ns :=
  ⟨xs.toList, ⟨some ⟨g, 0, none⟩, cap, rfl, fun j u hj => ⟨g, 0, rfl, by rw [Nat.zero_add, cell_of_row w g j xs t (0, 0) h]; simpa using hj⟩⟩, hr⟩
theorem NodeAt.rd {w : World} {g : Nat} {n : NodeL} (h : NodeAt w g n) : NodesRd w (.slice (some ⟨g, 0, none⟩) 1 1) [n] := by
  obtain ⟨h1, h2, h3⟩ := h
  exact nodesB (ns := [n]) h3 ⟨.slice none 0 0, .slice none 0 0, [], rfl, by rw [h1]; exact ⟨none, 0, rfl, fun j u hj => by simp [partCells] at hj⟩, by rw [h2]; exact ⟨none, 0, rfl, fun j u hj => by simp [kidCells] at hj⟩, rfl⟩
def varX : ByteArray := ⟨#[118, 97, 114, 46, 120]⟩
section
variable (w : World)
set_option maxRecDepth 20000 in
theorem pOf (nv : Value) (ns : List NodeL) (h : NodesRd w nv ns) (ht : treeP ns = true) (hf : ∀ n ∈ ns, Few n ∧ n.text.size ≤ 100000 ∧ n.kids.length ≤ 100000) (hp : ∀ n ∈ ns, n.parts = []) (hl : ns.length ≤ 1000) (hr : (rawN ns).length ≤ 1) (hv : ErrVar w) :
    Calls Tryz.prog 10 #[nv] w fun e w' => ∃ v, e = .returned v ∧ StrsIn w' w.heap.size v (rawN ns) ∧ Below w.heap.size w w' := by
  have H := Lib.hid h
  have C := Lib.hid (ptreeT w nv ns h hf (by omega) hv)
  rw [ht] at C
  have HP := Lib.hid hp
  have HR := Lib.hid hr
  obtain ⟨ao, cap, rfl, -⟩ := h.at
  clear h hf hv hp hr
  go_enter Tryz.func10, Tryz.ntmps10
  go_wp2_with fail
  refine C.out.mono ?_
  rintro e w1 ⟨rfl, hb1⟩
  go_wp2_with fail
  refine (prefs w1 _ ns (H.out.below hb1) HP.out hl HR.out).mono ?_
  rintro e w2 ⟨v, rfl, hv2, hb2⟩
  obtain ⟨so, sc, rfl, hst⟩ := hv2
  have ST := Lib.hid hst
  have B2 := Lib.hid (hb1.trans (hb2.mono hb1.size))
  have S1 := Lib.hid hb1.size
  clear hst hb1 hb2
  go_wp2_with fail
  go_ret
  exact ⟨_, rfl, ⟨so, sc, rfl, fun j x hx => by
    obtain ⟨g, o, h1, h2, h3, h4⟩ := ST.out j x hx
    exact ⟨g, o, h1, Nat.le_trans S1.out h2, h3, h4⟩⟩, B2.out⟩
theorem few_one (n : NodeL) (h1 : n.parts = []) (h2 : n.kids = []) (h3 : n.text.size ≤ 100000) : ∀ m ∈ [n], Few m ∧ m.text.size ≤ 100000 ∧ m.kids.length ≤ 100000 := by
  intro m hm
  simp only [List.mem_singleton] at hm
  subst hm
  exact ⟨⟨by rw [h1]; simp, fun p hp => by rw [h1] at hp; cases hp⟩, h3, by rw [h2]; simp⟩
theorem plain_one (n : NodeL) (h1 : n.parts = []) : ∀ m ∈ [n], m.parts = [] := by
  intro m hm
  simp only [List.mem_singleton] at hm
  subst hm
  exact h1
theorem tree_varX : treeP [refOne varX] = true := by kernel_rfl
theorem tree_num : treeP [(⟨1, 0, ⟨#[]⟩, [], []⟩ : NodeL)] = true := by kernel_rfl
set_option maxHeartbeats 1000000 in
set_option maxRecDepth 20000 in
theorem law_awake6 (hv : ErrVar w) : Calls Tryz.prog 6 #[] w (Made (.bool true) w) := by
  have V := Lib.hid hv
  have B0 := Lib.hid (below_al (Below.refl w.heap.size w) (.cells #[.int .i64 4, .int .i64 0, .string ⟨#[118, 97, 114, 46, 120]⟩, .slice none 0 0, .slice none 0 0] 41))
  have N0 := Lib.hid (show NodeAt (w.alloc (.cells #[.int .i64 4, .int .i64 0, .string ⟨#[118, 97, 114, 46, 120]⟩, .slice none 0 0, .slice none 0 0] 41)) w.heap.size (refOne varX) from ⟨rfl, rfl, heap_alloc_new w _⟩)
  clear hv
  go_enter Tryz.func6, Tryz.ntmps6
  go_wp2_with fail
  generalize w.alloc (.cells #[.int .i64 4, .int .i64 0, .string ⟨#[118, 97, 114, 46, 120]⟩, .slice none 0 0, .slice none 0 0] 41) = w1 at *
  refine (pOf w1 _ [refOne varX] N0.out.rd tree_varX (few_one _ rfl rfl (by show (5 : Nat) ≤ 100000; omega)) (plain_one _ rfl) (by simp) (rawN_one _) (V.out.below B0.out V.out.lt)).mono ?_
  rintro e w2 ⟨v, rfl, hv2, hb2⟩
  obtain ⟨so, sc, rfl, hst⟩ := hv2
  obtain ⟨g, o, rfl, -, hg, hc⟩ := hst 0 varX rfl
  rw [show (rawN [refOne varX]).length = 1 from rfl]
  have B2 := Lib.hid (B0.out.trans (hb2.mono B0.out.size))
  clear hst hb2
  have B3 := Lib.hid (below_al (Below.refl w2.heap.size w2) (.cells #[.int .i64 1, .int .i64 0, .string ⟨#[]⟩, .slice none 0 0, .slice none 0 0] 41))
  have N3 := Lib.hid (show NodeAt (w2.alloc (.cells #[.int .i64 1, .int .i64 0, .string ⟨#[]⟩, .slice none 0 0, .slice none 0 0] 41)) w2.heap.size (⟨1, 0, ⟨#[]⟩, [], []⟩ : NodeL) from ⟨rfl, rfl, heap_alloc_new w2 _⟩)
  go_wp2_with fail
  generalize w2.alloc (.cells #[.int .i64 1, .int .i64 0, .string ⟨#[]⟩, .slice none 0 0, .slice none 0 0] 41) = w3 at *
  have B23 := Lib.hid (B2.out.trans (B3.out.mono B2.out.size))
  refine (pOf w3 _ [(⟨1, 0, ⟨#[]⟩, [], []⟩ : NodeL)] N3.out.rd tree_num (few_one _ rfl rfl (by show (0 : Nat) ≤ 100000; omega)) (plain_one _ rfl) (by simp) (rawN_one _) (V.out.below B23.out V.out.lt)).mono ?_
  rintro e w4 ⟨v, rfl, hv4, hb4⟩
  obtain ⟨so, sc4, rfl, -⟩ := hv4
  rw [show (rawN [(⟨1, 0, ⟨#[]⟩, [], []⟩ : NodeL)]).length = 0 from rfl]
  have B4 := Lib.hid (B23.out.trans (hb4.mono B23.out.size))
  have c4 : w4.cell? ⟨g, o, none⟩ = some (.string ⟨#[118, 97, 114, 46, 120]⟩) := hold hb4 (hold B3.out hc)
  clear hc hb4 hg
  go_wp2_with fail
  go_ret
  exact ⟨rfl, B4.out⟩
end
end Go.Proofs.YtdaphajnioiakaaGreatDoor
