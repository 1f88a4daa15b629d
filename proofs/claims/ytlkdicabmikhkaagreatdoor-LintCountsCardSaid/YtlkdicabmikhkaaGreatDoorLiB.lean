/- Package refs: Of of any nodes; package lint: a list of names. -/
import Derived.Test.YtlkdicabmikhkaaGreatDoorLiA
import Derived.Test.YtlkdicabmikhkaaGreatDoorWtB
namespace Go.Proofs.YtlkdicabmikhkaaGreatDoor
open Go.RowKit Go.Sort
set_option linter.unusedVariables false
set_option linter.unusedSimpArgs false
/-- Texts, rising, each once. -/
def namesU (xs : List ByteArray) : List ByteArray := textsOf (Lib.compact (sortB (bytesOf xs)))
theorem namesU_le (xs : List ByteArray) : (namesU xs).length ≤ xs.length := by
  unfold namesU textsOf
  rw [List.length_map]
  exact Nat.le_trans (compact_le _) (by simp [sortB, bytesOf, List.length_mergeSort])
theorem namesU_nil : namesU [] = [] := List.eq_nil_of_length_eq_zero (Nat.le_zero.1 (namesU_le []))
section
variable (w : World)
set_option maxRecDepth 20000 in
theorem pOfG (nv : Value) (ns : List NodeL) (h : NodesRd w nv ns) (ht : treeP ns = true) (hf : ∀ n ∈ ns, Few n ∧ n.text.size ≤ 100000 ∧ n.kids.length ≤ 100000) (hl : ns.length ≤ 1000) (hr : (rawG ns).length ≤ 90000) (hv : ErrVar w) :
    Calls Tryz.prog 29 #[nv] w fun e w' => ∃ v, e = .returned v ∧ StrsIn w' w.heap.size v (refsG ns) ∧ Below w.heap.size w w' := by
  have H := Lib.hid h
  have C := Lib.hid (ptreeT w nv ns h hf (by omega) hv)
  rw [ht] at C
  have HP := Lib.hid (fun n hn => (hf n hn).1.1)
  have HR := Lib.hid hr
  obtain ⟨ao, cap, rfl, -⟩ := h.at
  clear h hf hv hr
  go_enter Tryz.func29, Tryz.ntmps29
  go_wp2_with fail
  refine C.out.mono ?_
  rintro e w1 ⟨rfl, hb1⟩
  go_wp2_with fail
  refine (prefsG w1 _ ns (H.out.below hb1) (by omega) HP.out HR.out).mono ?_
  rintro e w2 ⟨v, rfl, hv2, hb2⟩
  obtain ⟨so, sc, rfl, hst⟩ := hv2
  have ST := Lib.hid hst
  have B2 := Lib.hid (hb1.trans (hb2.mono hb1.size))
  have S1 := Lib.hid hb1.size
  clear hst hb1 hb2
  go_wp2_with fail
  go_ret
  exact ⟨_, rfl, ⟨so, sc, rfl, fun j x hx => by
    obtain ⟨g, o, h1, h2, h3, h4⟩ := ST.out j x hx
    exact ⟨g, o, h1, Nat.le_trans S1.out h2, h3, h4⟩⟩, B2.out⟩
set_option maxHeartbeats 1000000 in
set_option maxRecDepth 20000 in
/-- A row of texts of the call's own becomes a list of names. -/
theorem pnames (B : Nat) (v : Value) (xs : List ByteArray) (ho : w.ownsRow B 9 1 v xs.length (xs.map .string)) (hl : xs.length ≤ 90000) :
    Calls Tryz.prog 16 #[v] w fun e w' => ∃ v, e = .returned v ∧ StrsIn w' B v (namesU xs) ∧ Below B w w' := by
  obtain ⟨so, sc, rfl⟩ := own_lenR ho
  by_cases hrn : xs = []
  · subst hrn
    simp only [List.length_nil]
    go_enter Tryz.func16, Tryz.ntmps16
    go_wp2_with fail
    refine (Tryz.slices_Sort_string_none _ _ _).mono ?_
    rintro e w1 ⟨rfl, rfl⟩
    go_wp2_with fail
    refine (Tryz.slices_Compact_string_empty _ _ _).mono ?_
    rintro e w2 ⟨rfl, rfl⟩
    go_wp2_with fail
    go_ret
    exact ⟨_, rfl, by rw [namesU_nil]; exact strs_none _ _ _ _, ⟨rfl, rfl, rfl, Nat.le_refl _, fun _ _ => rfl⟩⟩
  · rcases ho.2 with ⟨e, h0⟩ | ⟨g, cap', cur, e, hB, hg, hnc, hcm, hsz, htk⟩
    · exact absurd (List.eq_nil_of_length_eq_zero h0) hrn
    · simp only [Value.slice.injEq] at e
      obtain ⟨rfl, -, rfl⟩ := e
      have T0 : TextsAt w g xs := ⟨fun i x hx => by
        have hi := (List.getElem?_eq_some_iff.1 hx).1
        rw [World.ownsRow.cellAt ho i (by omega), List.getElem?_map, hx]; rfl, fun i hi => World.ownsRow.frozenAt ho i⟩
      have hgl := (Array.getElem?_eq_some_iff.1 hg).1
      have PS := Lib.hid (psortT w g sc xs T0 hgl (by omega))
      have LS := Lib.hid (show (textsOf (sortB (bytesOf xs))).length = xs.length by simp [textsOf, sortB, bytesOf, List.length_mergeSort])
      have LN := Lib.hid (show (Lib.compact (sortB (bytesOf xs))).length = (namesU xs).length by simp [namesU, textsOf])
      clear T0 hg htk hsz hcm hgl ho
      go_enter Tryz.func16, Tryz.ntmps16
      go_wp2_with fail
      refine PS.out.mono ?_
      rintro e w1 ⟨rfl, h1, h2, h3⟩
      have B1 := Lib.hid (h3 _ hB)
      have PC := Lib.hid (pcompactT w1 g sc (textsOf (sortB (bytesOf xs))) h1 h2 (by rw [LS.out]; omega) (by rw [LS.out]; exact hnc) (by rw [bytes_texts]; exact Nat.le_trans (compact_le _) (by simp [textsOf])))
      rw [bytes_texts, LS.out, LN.out] at PC
      clear h1 h2 h3
      go_wp2_with fail
      refine PC.out.mono ?_
      rintro e w2 ⟨rfl, k1, k2, k3⟩
      have B2 := Lib.hid (B1.out.trans (k3 _ hB))
      have K1 := Lib.hid k1
      have K2 := Lib.hid k2
      clear k1 k2 k3
      go_wp2_with fail
      go_ret
      exact ⟨_, rfl, ⟨some ⟨g, 0, none⟩, sc, rfl, fun i x hx => ⟨g, 0, rfl, hB, K2.out, by rw [Nat.zero_add]; exact K1.out.cell i x hx⟩⟩, B2.out⟩
end
end Go.Proofs.YtlkdicabmikhkaaGreatDoor
