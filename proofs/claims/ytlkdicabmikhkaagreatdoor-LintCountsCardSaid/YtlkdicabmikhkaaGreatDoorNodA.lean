/- Nodes as they are read, without the parser. -/
import Derived.Test.YtlkdicabmikhkaaGreatDoorLexI0
import Derived.Deep.RegionWith
import Derived.Deep.DeepCutAuto
import Derived.Deep.RegionHeld3
import Derived.StillTailTactics
namespace Go.Proofs.YtlkdicabmikhkaaGreatDoor
open Go.RowKit
set_option linter.unusedVariables false
set_option linter.unusedSimpArgs false
structure NodeL where
  kind : Int
  num : Int
  text : ByteArray
  parts : List PartL
  kids : List Int
def nodeCells (n : NodeL) (pv kv : Value) : List Value := [.int .i64 n.kind, .int .i64 n.num, .string n.text, pv, kv]
def kidCells (ks : List Int) : List Value := ks.map (.int .i64)
theorem str_eq (a c : ByteArray) : (a.toList == c.toList) = decide (a = c) := by
  by_cases h : a = c
  · subst h; simp
  · have : ¬ a.toList = c.toList := fun e => h (by rw [ByteArray.toList_eq, ByteArray.toList_eq] at e; exact ByteArray.ext (Array.ext' e))
    simp [h, this]
theorem lit_eq {a : ByteArray} {l : List UInt8} : (a.toList == l) = decide (a = ⟨l.toArray⟩) := by
  have h : (⟨l.toArray⟩ : ByteArray).toList = l := by rw [ByteArray.toList_eq]
  have e := str_eq a ⟨l.toArray⟩
  rw [h] at e
  exact e
theorem str_ne {a : ByteArray} {l : List UInt8} (h : a ≠ ⟨l.toArray⟩) : (a.toList == l) = false := by rw [lit_eq]; exact decide_eq_false h
theorem str_is {a : ByteArray} {l : List UInt8} (h : a = ⟨l.toArray⟩) : (a.toList == l) = true := by rw [lit_eq]; exact decide_eq_true h
def PlacesRd (w : World) (v : Value) (xs : List Int) : Prop := Rds w v xs.length (kidCells xs)
theorem PlacesRd.len {w : World} {v : Value} {xs : List Int} (h : PlacesRd w v xs) : ∃ ao cap, v = .slice ao xs.length cap := by
  obtain ⟨ao, cap, rfl, -⟩ := h; exact ⟨_, _, rfl⟩
theorem PlacesRd.cell {w : World} {v : Value} {xs : List Int} (h : PlacesRd w v xs) (hn : 0 < xs.length) : ∃ g o cap, v = .slice (some ⟨g, o, none⟩) xs.length cap ∧ ∀ i (hi : i < xs.length), w.cell? ⟨g, o + i, none⟩ = some (.int .i64 xs[i]) := by
  obtain ⟨ao, cap, rfl, hc⟩ := h
  obtain ⟨g, o, rfl, _⟩ := hc 0 (.int .i64 xs[0]) (by simp [kidCells, hn])
  refine ⟨g, o, cap, rfl, fun i hi => ?_⟩
  obtain ⟨g', o', e, h'⟩ := hc i (.int .i64 xs[i]) (by simp [kidCells, hi])
  simp at e
  obtain ⟨rfl, rfl⟩ := e
  exact h'
theorem PlacesRd.below {w w' : World} {v : Value} {xs : List Int} (h : PlacesRd w v xs) (hb : Below w.heap.size w w') : PlacesRd w' v xs := Rds.below h hb
def NodesRow (w : World) : List NodeL → List Value → Prop
  | [], xs => xs = []
  | n :: ns, xs => ∃ pv kv rest, xs = nodeCells n pv kv ++ rest ∧ PartsRd w pv n.parts ∧ PlacesRd w kv n.kids ∧ NodesRow w ns rest
def NodesRd (w : World) (v : Value) (ns : List NodeL) : Prop := ∃ xs, Rds w v ns.length xs ∧ NodesRow w ns xs
theorem NodesRow.get {w : World} : ∀ {ns : List NodeL} {xs : List Value}, NodesRow w ns xs → ∀ {i : Nat} {n : NodeL}, ns[i]? = some n → ∃ pv kv, PartsRd w pv n.parts ∧ PlacesRd w kv n.kids ∧ ∀ j, j < 5 → xs[i * 5 + j]? = (nodeCells n pv kv)[j]? := by
  intro ns
  induction ns with
  | nil => intro xs h i n hi; simp at hi
  | cons a ns ih =>
    intro xs h i n hi
    obtain ⟨pv, kv, rest, rfl, ha, hb, hr⟩ := h
    cases i with
    | zero =>
      simp at hi; subst hi
      exact ⟨pv, kv, ha, hb, fun j hj => by rw [List.getElem?_append_left (by simp [nodeCells]; omega)]; simp⟩
    | succ i =>
      simp at hi
      obtain ⟨pv2, kv2, hp, hk, hx⟩ := ih hr hi
      refine ⟨pv2, kv2, hp, hk, fun j hj => ?_⟩
      rw [List.getElem?_append_right (by simp [nodeCells]; omega), ← hx j hj]
      congr 1
      simp [nodeCells]; omega
theorem NodesRow.below {w w' : World} (hb : Below w.heap.size w w') : ∀ {ns : List NodeL} {xs : List Value}, NodesRow w ns xs → NodesRow w' ns xs := by
  intro ns
  induction ns with
  | nil => intro xs h; exact h
  | cons a ns ih => intro xs h; obtain ⟨pv, kv, rest, rfl, ha, hk, hr⟩ := h; exact ⟨pv, kv, rest, rfl, Rds.below ha hb, Rds.below hk hb, ih hr⟩
theorem NodesRd.below {w w' : World} {v : Value} {ns : List NodeL} (h : NodesRd w v ns) (hb : Below w.heap.size w w') : NodesRd w' v ns := by
  obtain ⟨xs, h1, h2⟩ := h; exact ⟨xs, h1.below hb, h2.below hb⟩
theorem NodesRd.at {w : World} {v : Value} {ns : List NodeL} (h : NodesRd w v ns) : ∃ ao cap, v = .slice ao ns.length cap ∧ ∀ i n, ns[i]? = some n → ∃ g o pv kv, ao = some ⟨g, o, none⟩ ∧ PartsRd w pv n.parts ∧ PlacesRd w kv n.kids ∧ (w.cell? ⟨g, o + i * 5, none⟩ = some (.int .i64 n.kind) ∧ w.cell? ⟨g, o + i * 5 + 1, none⟩ = some (.int .i64 n.num) ∧ w.cell? ⟨g, o + i * 5 + 2, none⟩ = some (.string n.text) ∧ w.cell? ⟨g, o + i * 5 + 3, none⟩ = some pv ∧ w.cell? ⟨g, o + i * 5 + 4, none⟩ = some kv) := by
  obtain ⟨xs, ⟨ao, cap, rfl, hc⟩, ht⟩ := h
  refine ⟨ao, cap, rfl, fun i n hi => ?_⟩
  obtain ⟨pv, kv, hp, hk, hx⟩ := ht.get hi
  obtain ⟨g, o, he, h0⟩ := hc (i * 5) _ (by have := hx 0 (by omega); simpa [nodeCells] using this)
  have hcell : ∀ j u, j < 5 → (nodeCells n pv kv)[j]? = some u → w.cell? ⟨g, o + i * 5 + j, none⟩ = some u := by
    intro j u hj hu
    obtain ⟨g', o', he', h'⟩ := hc (i * 5 + j) u (by rw [hx j hj]; exact hu)
    rw [he] at he'
    simp at he'
    obtain ⟨rfl, rfl⟩ := he'
    rw [← Nat.add_assoc] at h'
    exact h'
  exact ⟨g, o, pv, kv, he, hp, hk, hcell 0 _ (by omega) rfl, hcell 1 _ (by omega) rfl, hcell 2 _ (by omega) rfl, hcell 3 _ (by omega) rfl, hcell 4 _ (by omega) rfl⟩
end Go.Proofs.YtlkdicabmikhkaaGreatDoor
