/- Package room: those who count, found from the root down; walked. -/
import Derived.Test.YtffmmoligdoclaaRmQ
import Derived.Test.YtffmmoligdoclaaRmS
namespace Go.Proofs.Ytffmmoligdoclaa
open Go.RowKit
set_option linter.unusedVariables false
set_option linter.unusedSimpArgs false
def BelRel (w : World) (l : List I12) (m : Nat) (iv : Value) (wr : World) : Prop :=
  ∃ k : Nat, iv = .int .i64 k ∧ l.length - k ≤ m ∧ k ≤ l.length ∧ Below w.heap.size w wr ∧ ∃ d V, MapR wr w.heap.size w.heap.size k d V (fun s => kidTo l s k) (fun _ => True)
/-- The rows that are left. -/
def leftL (l : List I12) (ns : List ByteArray) (P : List I12) (s : ByteArray) : List I12 := if s = ⟨#[]⟩ ∨ (∃ y ∈ P, inB ns y.name = false ∧ y.name = s) then [] else kidI l s
theorem left_yes {l : List I12} {ns : List ByteArray} {P : List I12} {y : I12} (h : inB ns y.name = true) : leftL l ns (P ++ [y]) = leftL l ns P := by
  funext s
  have : (∃ z ∈ P ++ [y], inB ns z.name = false ∧ z.name = s) ↔ ∃ z ∈ P, inB ns z.name = false ∧ z.name = s := by
    constructor
    · rintro ⟨z, hz, h1, h2⟩
      rw [List.mem_append, List.mem_singleton] at hz
      rcases hz with hz | rfl
      · exact ⟨z, hz, h1, h2⟩
      · rw [h] at h1; cases h1
    · rintro ⟨z, hz, h1⟩
      exact ⟨z, List.mem_append_left _ hz, h1⟩
  unfold leftL
  simp only [this]
theorem left_no {l : List I12} {ns : List ByteArray} {P : List I12} {y : I12} (h : inB ns y.name = false) : leftL l ns (P ++ [y]) = fun s => if s = y.name then [] else leftL l ns P s := by
  funext s
  unfold leftL
  by_cases e : s = y.name
  · rw [if_pos e, if_pos (.inr ⟨y, by simp, h, e.symm⟩)]
  · rw [if_neg e]
    have : (∃ z ∈ P ++ [y], inB ns z.name = false ∧ z.name = s) ↔ ∃ z ∈ P, inB ns z.name = false ∧ z.name = s := by
      constructor
      · rintro ⟨z, hz, h1, h2⟩
        rw [List.mem_append, List.mem_singleton] at hz
        rcases hz with hz | rfl
        · exact ⟨z, hz, h1, h2⟩
        · exact absurd h2.symm e
      · rintro ⟨z, hz, h1⟩
        exact ⟨z, List.mem_append_left _ hz, h1⟩
    simp only [this]
theorem HS.left {l : List I12} (hr : RT l) {ns : List ByteArray} {P Q : List I12} {y : I12} (h : HS l ns P (y :: Q)) : leftL l ns P y.name = kidI l y.name := by
  unfold leftL
  rw [if_neg]
  rintro (e | ⟨z, hz, -, e⟩)
  · exact name_ne' hr (h.sub y (by simp)) e
  · have hu := h.uq
    unfold Uq at hu
    rw [List.pairwise_append] at hu
    exact hu.2.2 z hz y List.mem_cons_self e
theorem left_start (l : List I12) (ns : List ByteArray) : leftL l ns [] = fun s => if s = ⟨#[]⟩ then [] else kidI l s := by
  funext s
  unfold leftL
  by_cases e : s = ⟨#[]⟩
  · rw [if_pos (.inl e), if_pos e]
  · rw [if_neg e, if_neg]
    rintro (h | ⟨z, hz, -⟩)
    · exact e h
    · cases hz
/-- All that lies in memory while the tree is gone through. -/
structure Going (w wr : World) (l : List I12) (ns : List ByteArray) (P Q : List I12) (d : DataW Value) (V : ByteArray → Value) (fv rv : Value) : Prop where
  hs : HS l ns P Q
  below : Below w.heap.size w wr
  own : IOwn wr w.heap.size (headL ns P) fv
  row : QRow wr w.heap.size Q rv
  map : MapR wr w.heap.size w.heap.size l.length d V (leftL l ns P) (fun x => x ≠ ⟨#[]⟩)
  a1 : fv.ownBlock ≠ some w.heap.size
  a2 : rv.ownBlock ≠ some w.heap.size
  a3 : ∀ k, fv.ownBlock = some k → rv.ownBlock ≠ some k
  a4 : ∀ x k, (V x).ownBlock = some k → fv.ownBlock ≠ some k
  a5 : ∀ x k, (V x).ownBlock = some k → rv.ownBlock ≠ some k
theorem IOwn.kept {w w' : World} {B : Nat} {l : List I12} {v : Value} (h : IOwn w B l v) {row : Option Nat} (hg : w.grownBy w' row) (hv : ∀ k, v.ownBlock = some k → row ≠ some k) : IOwn w' B l v :=
  World.ownsRow.kept h hg (by
    by_cases hn : v.ownBlock = none
    · exact .inl hn
    · right
      intro e
      obtain ⟨k, hk⟩ := Option.ne_none_iff_exists'.1 hn
      exact hv k hk (by rw [← e]; exact hk))
theorem Going.alloc {w wr : World} {l : List I12} {ns : List ByteArray} {P Q : List I12} {d : DataW Value} {V : ByteArray → Value} {fv rv : Value} (G : Going w wr l ns P Q d V fv rv) (O : Obj) : Going w (wr.alloc O) l ns P Q d V fv rv :=
  ⟨G.hs, below_al G.below O, G.own.alloc O, G.row.alloc O, G.map.alloc O, G.a1, G.a2, G.a3, G.a4, G.a5⟩
/-- One that is asked for is taken. -/
theorem Going.take {w wr w' : World} {l : List I12} {ns : List ByteArray} {P Q : List I12} {y : I12} {d : DataW Value} {V : ByteArray → Value} {fv fv' rv : Value} (G : Going w wr l ns P (y :: Q) d V fv rv) (hy : inB ns y.name = true) {rv' : Value}
    (hg : wr.grownBy w' fv.ownBlock) (ho : IOwn w' w.heap.size (headL ns P ++ [y]) fv') (hat : fv.ownBlock = fv'.ownBlock ∨ ∃ k, fv'.ownBlock = some k ∧ wr.heap.size ≤ k) (hrv : QRow w' w.heap.size (y :: Q) rv → QRow w' w.heap.size Q rv') (hb : rv'.ownBlock = rv.ownBlock) : Going w w' l ns (P ++ [y]) Q d V fv' rv' := by
  have n1 : ∀ k, rv.ownBlock = some k → fv.ownBlock ≠ some k := fun k hk e => G.a3 k e hk
  have hw : w.heap.size < wr.heap.size := G.map.lt
  refine ⟨G.hs.take hy, below_grown' G.below hg (fun k hk => ((World.ownsRow.lt G.own k hk)).1), by rw [headL_yes hy]; exact ho, hrv (G.row.kept hg n1), ?_, ?_, by rw [hb]; exact G.a2, ?_, ?_, fun x k hk => by rw [hb]; exact G.a5 x k hk⟩
  · rw [left_yes hy]
    exact G.map.kept hg G.a1 (fun x k hk => G.a4 x k hk)
  · rcases hat with e | ⟨k, e, hk⟩
    · rw [← e]; exact G.a1
    · rw [e]; intro h; simp at h; omega
  · intro k hk
    rw [hb]
    rcases hat with e | ⟨k2, e, hk2⟩
    · exact G.a3 k (by rw [e]; exact hk)
    · intro h2
      have := (G.row.lt k h2).2
      rw [e] at hk; simp at hk; omega
  · intro x k hk
    rcases hat with e | ⟨k2, e, hk2⟩
    · rw [← e]; exact G.a4 x k hk
    · have := ((G.map.row x).lt k hk).2
      rw [e]; intro h; simp at h; omega
/-- Those below one that is not asked for come to the row. -/
theorem Going.grow {w wr w6 w7 : World} {l : List I12} (hr : RT l) {ns : List ByteArray} {P Q : List I12} {y : I12} {d : DataW Value} {V : ByteArray → Value} {fv rv v6 : Value} (G : Going w wr l ns P (y :: Q) d V fv rv) (hy : inB ns y.name = false) {rv' : Value}
    (hg : wr.grownBy w6 rv.ownBlock) (ho : QRow w6 w.heap.size (y :: Q ++ kidI l y.name) v6) (hat : rv.ownBlock = v6.ownBlock ∨ v6.ownBlock = some wr.heap.size)
    (h7 : w7.ownsMap Try.prog 9 heldW w.heap.size l.length (d.del (keyW y.name))) (hg7 : w6.grownBy w7 (some w.heap.size))
    (hrv : QRow w7 w.heap.size (y :: Q ++ kidI l y.name) v6 → QRow w7 w.heap.size (Q ++ kidI l y.name) rv') (hb : rv'.ownBlock = v6.ownBlock) : Going w w7 l ns (P ++ [y]) (Q ++ kidI l y.name) (d.del (keyW y.name)) (fun x => if x = y.name then nilS else V x) fv rv' := by
  have hw : w.heap.size < wr.heap.size := G.map.lt
  have b6 : v6.ownBlock ≠ some w.heap.size := by
    rcases hat with e | e
    · rw [← e]; exact G.a2
    · rw [e]; intro h; simp at h; omega
  have f6 : ∀ k, fv.ownBlock = some k → v6.ownBlock ≠ some k := by
    intro k hk
    rcases hat with e | e
    · rw [← e]; exact G.a3 k hk
    · have := (World.ownsRow.lt G.own k hk).2
      rw [e]; intro h; simp at h; omega
  have v6' : ∀ x k, (V x).ownBlock = some k → v6.ownBlock ≠ some k := by
    intro x k hk
    rcases hat with e | e
    · rw [← e]; exact G.a5 x k hk
    · have := ((G.map.row x).lt k hk).2
      rw [e]; intro h; simp at h; omega
  have M6 := G.map.kept hg G.a2 (fun x k hk => G.a5 x k hk)
  refine ⟨G.hs.grow hr hy, below_grown' (below_grown' G.below hg (fun k hk => (G.row.lt k hk).1)) hg7 (fun k hk => by simp at hk; omega), ?_, ?_, ?_, G.a1, by rw [hb]; exact b6, fun k hk => by rw [hb]; exact f6 k hk, fun x k hk => ?_, fun x k hk => ?_⟩
  · rw [headL_no hy]
    exact (G.own.kept hg (fun k hk => G.a3 k hk)).kept hg7 (fun k hk e => G.a1 (by rw [hk]; exact e.symm))
  · exact hrv (ho.kept hg7 (fun k hk e => b6 (by rw [hk]; exact e.symm)))
  · rw [left_no hy]
    exact M6.del h7 hg7
  · by_cases e : x = y.name
    · simp [e, Value.ownBlock] at hk
    · simp only [if_neg e] at hk; exact G.a4 x k hk
  · by_cases e : x = y.name
    · simp [e, Value.ownBlock] at hk
    · simp only [if_neg e] at hk; rw [hb]; exact v6' x k hk
def HeadRel (w : World) (l : List I12) (ns : List ByteArray) (m : Nat) (fv rv : Value) (wr : World) : Prop :=
  ∃ (P Q : List I12) (d : DataW Value) (V : ByteArray → Value), l.length - P.length ≤ m ∧ Going w wr l ns P Q d V fv rv
theorem block_sliced (so : Option Addr) (k n cap : Nat) : (sliced so k n cap 12).ownBlock = (Value.slice so n cap).ownBlock := by
  unfold sliced
  cases so with
  | none => split <;> rfl
  | some a => obtain ⟨g, o, p⟩ := a; split <;> (simp [Value.ownBlock, Addr.add]; try (split <;> rfl))
end Go.Proofs.Ytffmmoligdoclaa
