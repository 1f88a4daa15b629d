/- Package refs: texts sorted, each once; the references of any nodes. -/
import Derived.Test.YtlkdicabmikhkaaGreatDoorRcA
import Derived.Lib.LazyBuf
namespace Go.Proofs.YtlkdicabmikhkaaGreatDoor
open Go.RowKit Go.Sort
set_option linter.unusedVariables false
set_option linter.unusedSimpArgs false
def bytesOf (xs : List ByteArray) : List (List UInt8) := xs.map fun x => x.data.toList
def textsOf (ls : List (List UInt8)) : List ByteArray := ls.map fun l => ⟨l.toArray⟩
def sortB (ls : List (List UInt8)) : List (List UInt8) := ls.mergeSort fun x y => decide (x ≤ y)
theorem bytes_texts (ls : List (List UInt8)) : bytesOf (textsOf ls) = ls := by
  unfold bytesOf textsOf
  rw [List.map_map]
  conv => rhs; rw [← List.map_id ls]
  rfl
theorem strsOf_get (xs : List ByteArray) : Lib.strsOf (fun i => xs.getD i ⟨#[]⟩) xs.length = bytesOf xs := by
  unfold Lib.strsOf bytesOf
  apply List.ext_getElem?
  intro i
  by_cases hi : i < xs.length
  · simp [hi]
  · simp [hi]
/-- Texts lie in a block, and may be written. -/
structure TextsAt (w : World) (g : Nat) (xs : List ByteArray) : Prop where
  cell : ∀ (i : Nat) (x : ByteArray), xs[i]? = some x → w.cell? ⟨g, i, none⟩ = some (.string x)
  free : ∀ i, i < xs.length → w.frozen? ⟨g, i, none⟩ = false
theorem encStr_is (l : List UInt8) : encStr l = .string ⟨l.toArray⟩ := rfl
theorem set_texts {w : World} {g : Nat} {xs : List ByteArray} (h : TextsAt w g xs) (ls : List (List UInt8)) (hl : ls.length = xs.length) : TextsAt (w.setCells g 0 (ls.map encStr)) g (textsOf ls) ∧ ∀ B, B ≤ g → Below B w (w.setCells g 0 (ls.map encStr)) := by
  refine ⟨⟨fun i x hx => ?_, fun i hi => ?_⟩, fun B hB => below_setCells hB _ _ _ (Below.refl B w)⟩
  · have hi : i < ls.length := by have := (List.getElem?_eq_some_iff.1 hx).1; simpa [textsOf] using this
    have := World.cell?_setCells_in g (ls.map encStr) 0 w (fun j hj => by
      have hj' : j < xs.length := by rw [List.length_map] at hj; omega
      rw [Nat.zero_add, h.cell j _ (List.getElem?_eq_getElem hj')]; rfl) i (by simpa using hi)
    rw [Nat.zero_add] at this
    rw [this]
    have e : x = ⟨ls[i].toArray⟩ := by
      simp [textsOf, hi] at hx
      exact hx.symm
    rw [e, List.getElem_map, encStr_is]
  · rw [World.frozen?_setCells]
    refine h.free i ?_
    simp [textsOf] at hi
    omega
theorem TextsAt.below {w w' : World} {g : Nat} {xs : List ByteArray} (h : TextsAt w g xs) (hb : Below (g + 1) w w') : TextsAt w' g xs :=
  ⟨fun i x hx => (hb.cell (p := ⟨g, i, none⟩) (Nat.lt_succ_self g)).trans (h.cell i x hx), fun i hi => (hb.frozen (p := ⟨g, i, none⟩) (Nat.lt_succ_self g)).trans (h.free i hi)⟩
section
variable (w : World)
set_option maxRecDepth 20000 in
theorem psortT (g cap : Nat) (xs : List ByteArray) (h : TextsAt w g xs) (hg : g < w.heap.size) (hl : xs.length ≤ 100000) :
    Calls Tryz.prog 27 #[.slice (some ⟨g, 0, none⟩) xs.length cap] w fun e W => e = .returned (.tuple #[]) ∧ TextsAt W g (textsOf (sortB (bytesOf xs))) ∧ g < W.heap.size ∧ ∀ B, B ≤ g → Below B w W := by
  have hH := Lib.holds_of_strs (w := w) (b := g) (off := 0) (n := xs.length) (Sx := fun i => xs.getD i ⟨#[]⟩) (fun i hi => by
    rw [Nat.zero_add, h.cell i _ (List.getElem?_eq_getElem hi)]
    simp [hi]) (fun i hi => by rw [Nat.zero_add]; exact h.free i hi)
  rw [strsOf_get] at hH
  have hbl : (bytesOf xs).length = xs.length := by simp [bytesOf]
  have C := Tryz.slices_Sort_string g 0 cap (bytesOf xs) w hH hg (by rw [hbl]; omega)
  rw [hbl] at C
  refine C.mono ?_
  rintro e W ⟨rfl, n, os, rfl⟩
  have hsl : (sortB (bytesOf xs)).length = (bytesOf xs).length := List.length_mergeSort _
  rw [show ((bytesOf xs).mergeSort fun x y => decide (x ≤ y)) = sortB (bytesOf xs) from rfl, Lib.putRow_eq_setCells encStr w g 0 _ (sortB (bytesOf xs)) n hH (by simp [hsl])]
  have h1 : TextsAt (w.drewN n) g xs := ⟨h.cell, h.free⟩
  obtain ⟨s1, s2⟩ := set_texts h1 (sortB (bytesOf xs)) (by rw [hsl, hbl])
  have k2 : ∀ B, B ≤ g → Below B w ((w.drewN n).setCells g 0 ((sortB (bytesOf xs)).map encStr)) := fun B hB => by
    have := s2 B hB
    exact ⟨this.os, this.tape, this.output, this.size, this.block⟩
  generalize (w.drewN n).setCells g 0 ((sortB (bytesOf xs)).map encStr) = W at *
  have hgW : g < W.heap.size := Nat.lt_of_lt_of_le hg (k2 0 (Nat.zero_le _)).size
  have G := below_growR (B := g + 1) (a := W) (w := W) (Below.refl _ _) (by omega) os
  exact ⟨rfl, s1.below G, Nat.lt_of_lt_of_le hgW G.size, fun B hB => (k2 B hB).trans (G.mono (by omega))⟩
set_option maxRecDepth 20000 in
theorem pcompactT (g cap : Nat) (xs : List ByteArray) (h : TextsAt w g xs) (hg : g < w.heap.size) (hl : xs.length ≤ 100000) (hcap : xs.length ≤ cap) (hne : (Lib.compact (bytesOf xs)).length ≤ xs.length) :
    Calls Tryz.prog 28 #[.slice (some ⟨g, 0, none⟩) xs.length cap] w fun e W => e = .returned (.slice (some ⟨g, 0, none⟩) (Lib.compact (bytesOf xs)).length cap) ∧ TextsAt W g (textsOf (Lib.compact (bytesOf xs))) ∧ g < W.heap.size ∧ ∀ B, B ≤ g → Below B w W := by
  have C := Tryz.slices_Compact_string_cells g 0 xs.length cap (fun i => xs.getD i ⟨#[]⟩) w (by omega) hcap (fun i hi => by
    rw [Nat.zero_add, h.cell i _ (List.getElem?_eq_getElem hi)]
    simp [hi]) (fun i hi => by rw [Nat.zero_add]; exact h.free i hi)
  rw [strsOf_get] at C
  refine C.mono ?_
  rintro e W ⟨rfl, q, rfl⟩
  have h1 : TextsAt (w.drewN q) g xs := ⟨h.cell, h.free⟩
  obtain ⟨s1, s2⟩ := set_texts h1 (Lib.compact (bytesOf xs) ++ List.replicate (xs.length - (Lib.compact (bytesOf xs)).length) []) (by rw [List.length_append, List.length_replicate]; omega)
  refine ⟨rfl, ⟨fun i x hx => s1.cell i x ?_, fun i hi => s1.free i ?_⟩, ?_, fun B hB => ?_⟩
  · have hi := (List.getElem?_eq_some_iff.1 hx).1
    unfold textsOf at hx hi ⊢
    rw [List.map_append, List.getElem?_append_left hi]
    exact hx
  · simp only [textsOf, List.length_map, List.length_append] at hi ⊢
    omega
  · exact Nat.lt_of_lt_of_le hg (s2 0 (Nat.zero_le _)).size
  · have := s2 B hB
    exact ⟨this.os, this.tape, this.output, this.size, this.block⟩
end
end Go.Proofs.YtlkdicabmikhkaaGreatDoor
