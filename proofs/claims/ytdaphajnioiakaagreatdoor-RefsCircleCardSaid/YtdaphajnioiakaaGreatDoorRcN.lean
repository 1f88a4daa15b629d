/- The law's example of references. -/
import Derived.Test.YtdaphajnioiakaaGreatDoorRcL
namespace Go.Proofs.YtdaphajnioiakaaGreatDoor
open Go.RowKit
set_option linter.unusedVariables false
set_option linter.unusedSimpArgs false
/-- One node alone at a block. -/
def NodeAt (w : World) (g : Nat) (n : NodeL) : Prop := n.parts = [] ∧ n.kids = [] ∧ w.heap[g]? = some (.cells #[.int .i64 n.kind, .int .i64 n.num, .string n.text, .slice none 0 0, .slice none 0 0] 41)
theorem nodesB {w : World} {g cap : Nat} {ns : List NodeL} {xs : Array Value} {t : TypeId} (h : w.heap[g]? = some (.cells xs t (0, 0))) (hr : NodesRow w ns xs.toList) : NodesRd w (.slice (some ⟨g, 0, none⟩) ns.length cap) ns :=
  ⟨xs.toList, ⟨some ⟨g, 0, none⟩, cap, rfl, fun j u hj => ⟨g, 0, rfl, by rw [Nat.zero_add, cell_of_row w g j xs t (0, 0) h]; simpa using hj⟩⟩, hr⟩
theorem NodeAt.rd {w : World} {g : Nat} {n : NodeL} (h : NodeAt w g n) : NodesRd w (.slice (some ⟨g, 0, none⟩) 1 1) [n] := by
  obtain ⟨h1, h2, h3⟩ := h
  exact nodesB (ns := [n]) h3 ⟨.slice none 0 0, .slice none 0 0, [], rfl, by rw [h1]; exact ⟨none, 0, rfl, fun j u hj => by simp [partCells] at hj⟩, by rw [h2]; exact ⟨none, 0, rfl, fun j u hj => by simp [kidCells] at hj⟩, rfl⟩
def varX : ByteArray := ⟨#[118, 97, 114, 46, 120]⟩
section
variable (w : World)
set_option maxRecDepth 20000 in
theorem pOf (nv : Value) (ns : List NodeL) (h : NodesRd w nv ns) (ht : treeP ns = true) (hf : ∀ n ∈ ns, Few n ∧ n.text.size ≤ 100000 ∧ n.kids.length ≤ 100000) (hp : ∀ n ∈ ns, n.parts = []) (hl : ns.length ≤ 1000) (hr : (rawN ns).length ≤ 1) (hv : ErrVar w) :
    Calls Tryz.prog 10 #[nv] w fun e w' => ∃ v, e = .returned v ∧ StrsIn w' w.heap.size v (rawN ns) ∧ Below w.heap.size w w' := by
  have H := Lib.hid h
  have C := Lib.hid (ptreeT w nv ns h hf (by omega) hv)
  rw [ht] at C
  have HP := Lib.hid hp
  have HR := Lib.hid hr
  obtain ⟨ao, cap, rfl, -⟩ := h.at
  clear h hf hv hp hr
  go_enter Tryz.func10, Tryz.ntmps10
  go_wp2_with fail
  refine C.out.mono ?_
  rintro e w1 ⟨rfl, hb1⟩
  go_wp2_with fail
  refine (prefs w1 _ ns (H.out.below hb1) HP.out hl HR.out).mono ?_
  rintro e w2 ⟨v, rfl, hv2, hb2⟩
  obtain ⟨so, sc, rfl, hst⟩ := hv2
  have ST := Lib.hid hst
  have B2 := Lib.hid (hb1.trans (hb2.mono hb1.size))
  have S1 := Lib.hid hb1.size
  clear hst hb1 hb2
  go_wp2_with fail
  go_ret
  exact ⟨_, rfl, ⟨so, sc, rfl, fun j x hx => by
    obtain ⟨g, o, h1, h2, h3, h4⟩ := ST.out j x hx
    exact ⟨g, o, h1, Nat.le_trans S1.out h2, h3, h4⟩⟩, B2.out⟩
theorem few_one (n : NodeL) (h1 : n.parts = []) (h2 : n.kids = []) (h3 : n.text.size ≤ 100000) : ∀ m ∈ [n], Few m ∧ m.text.size ≤ 100000 ∧ m.kids.length ≤ 100000 := by
  intro m hm
  simp only [List.mem_singleton] at hm
  subst hm
  exact ⟨⟨by rw [h1]; simp, fun p hp => by rw [h1] at hp; cases hp⟩, h3, by rw [h2]; simp⟩
theorem plain_one (n : NodeL) (h1 : n.parts = []) : ∀ m ∈ [n], m.parts = [] := by
  intro m hm
  simp only [List.mem_singleton] at hm
  subst hm
  exact h1
theorem tree_varX : treeP [refOne varX] = true := by kernel_rfl
theorem tree_num : treeP [(⟨1, 0, ⟨#[]⟩, [], []⟩ : NodeL)] = true := by kernel_rfl
set_option maxHeartbeats 1000000 in
set_option maxRecDepth 20000 in
theorem law_awake6 (hv : ErrVar w) : Calls Tryz.prog 6 #[] w (Made (.bool true) w) := by
  have V := Lib.hid hv
  have B0 := Lib.hid (below_al (Below.refl w.heap.size w) (.cells #[.int .i64 4, .int .i64 0, .string ⟨#[118, 97, 114, 46, 120]⟩, .slice none 0 0, .slice none 0 0] 41))
  have N0 := Lib.hid (show NodeAt (w.alloc (.cells #[.int .i64 4, .int .i64 0, .string ⟨#[118, 97, 114, 46, 120]⟩, .slice none 0 0, .slice none 0 0] 41)) w.heap.size (refOne varX) from ⟨rfl, rfl, heap_alloc_new w _⟩)
  clear hv
  go_enter Tryz.func6, Tryz.ntmps6
  go_wp2_with fail
  generalize w.alloc (.cells #[.int .i64 4, .int .i64 0, .string ⟨#[118, 97, 114, 46, 120]⟩, .slice none 0 0, .slice none 0 0] 41) = w1 at *
  refine (pOf w1 _ [refOne varX] N0.out.rd tree_varX (few_one _ rfl rfl (by show (5 : Nat) ≤ 100000; omega)) (plain_one _ rfl) (by simp) (rawN_one _) (V.out.below B0.out V.out.lt)).mono ?_
  rintro e w2 ⟨v, rfl, hv2, hb2⟩
  obtain ⟨so, sc, rfl, hst⟩ := hv2
  obtain ⟨g, o, rfl, -, hg, hc⟩ := hst 0 varX rfl
  rw [show (rawN [refOne varX]).length = 1 from rfl]
  have B2 := Lib.hid (B0.out.trans (hb2.mono B0.out.size))
  clear hst hb2
  have B3 := Lib.hid (below_al (Below.refl w2.heap.size w2) (.cells #[.int .i64 1, .int .i64 0, .string ⟨#[]⟩, .slice none 0 0, .slice none 0 0] 41))
  have N3 := Lib.hid (show NodeAt (w2.alloc (.cells #[.int .i64 1, .int .i64 0, .string ⟨#[]⟩, .slice none 0 0, .slice none 0 0] 41)) w2.heap.size (⟨1, 0, ⟨#[]⟩, [], []⟩ : NodeL) from ⟨rfl, rfl, heap_alloc_new w2 _⟩)
  go_wp2_with fail
  generalize w2.alloc (.cells #[.int .i64 1, .int .i64 0, .string ⟨#[]⟩, .slice none 0 0, .slice none 0 0] 41) = w3 at *
  have B23 := Lib.hid (B2.out.trans (B3.out.mono B2.out.size))
  refine (pOf w3 _ [(⟨1, 0, ⟨#[]⟩, [], []⟩ : NodeL)] N3.out.rd tree_num (few_one _ rfl rfl (by show (0 : Nat) ≤ 100000; omega)) (plain_one _ rfl) (by simp) (rawN_one _) (V.out.below B23.out V.out.lt)).mono ?_
  rintro e w4 ⟨v, rfl, hv4, hb4⟩
  obtain ⟨so, sc4, rfl, -⟩ := hv4
  rw [show (rawN [(⟨1, 0, ⟨#[]⟩, [], []⟩ : NodeL)]).length = 0 from rfl]
  have B4 := Lib.hid (B23.out.trans (hb4.mono B23.out.size))
  have c4 : w4.cell? ⟨g, o, none⟩ = some (.string ⟨#[118, 97, 114, 46, 120]⟩) := hold hb4 (hold B3.out hc)
  clear hc hb4 hg
  go_wp2_with fail
  go_ret
  exact ⟨rfl, B4.out⟩
end
end Go.Proofs.YtdaphajnioiakaaGreatDoor
