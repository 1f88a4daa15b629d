/- Tokens as they are read; the law's example; labels. -/
import Derived.Test.YtlkdicabmikhkaaGreatDoorLexH
namespace Go.Proofs.YtlkdicabmikhkaaGreatDoor
open Go.RowKit
set_option linter.unusedVariables false
set_option linter.unusedSimpArgs false

/-- A slice value of n elements whose cells are xs. -/
def Rds (w : World) (v : Value) (n : Nat) (xs : List Value) : Prop :=
  ∃ ao cap, v = .slice ao n cap ∧ ∀ j u, xs[j]? = some u → ∃ g o, ao = some ⟨g, o, none⟩ ∧ w.cell? ⟨g, o + j, none⟩ = some u
def PartsRd (w : World) (v : Value) (ps : List PartL) : Prop := Rds w v ps.length (partCells ps)
def TokRd (w : World) : List TokL → List Value → Prop
  | [], xs => xs = []
  | t :: ts, xs => ∃ pv rest, xs = tokCells t pv ++ rest ∧ PartsRd w pv t.parts ∧ TokRd w ts rest
def ToksRd (w : World) (v : Value) (ts : List TokL) : Prop := ∃ xs, Rds w v ts.length xs ∧ TokRd w ts xs

theorem Rds.of_own {w : World} {B e z n : Nat} {v : Value} {xs : List Value} (h : w.ownsRow B e z v n xs) : Rds w v n xs := by
  have hc := fun g => World.ownsRow.cells (g := g) h
  rcases h.2 with ⟨rfl, h0⟩ | ⟨g, cap, cur, rfl, _⟩
  · refine ⟨none, 0, by rw [h0], fun j u hj => ?_⟩
    have hl := h.1
    rw [h0] at hl
    have : xs = [] := List.eq_nil_of_length_eq_zero (by simpa using hl)
    rw [this] at hj; simp at hj
  · refine ⟨some ⟨g, 0, none⟩, cap, rfl, fun j u hj => ⟨g, 0, rfl, ?_⟩⟩
    have := hc g rfl j u hj
    have hadd : (⟨g, 0, none⟩ : Addr).add j = ⟨g, 0 + j, none⟩ := by unfold Addr.add; split <;> simp_all
    rw [← hadd]; exact this
theorem Rds.below {w w' : World} {n : Nat} {v : Value} {xs : List Value} (h : Rds w v n xs) (hb : Below w.heap.size w w') : Rds w' v n xs := by
  obtain ⟨ao, cap, rfl, hc⟩ := h
  refine ⟨ao, cap, rfl, fun j u hj => ?_⟩
  obtain ⟨g, o, he, hw⟩ := hc j u hj
  exact ⟨g, o, he, (hb.cell (p := ⟨g, o + j, none⟩) (World.block_lt_of_cell? w _ hw)).trans hw⟩
theorem TokRd.of_row {w : World} {B : Nat} : ∀ {ts : List TokL} {xs : List Value}, TokRow w B ts xs → TokRd w ts xs := by
  intro ts
  induction ts with
  | nil => intro xs h; exact h
  | cons a ts ih => intro xs h; obtain ⟨av, rest, rfl, ha, hr⟩ := h; exact ⟨av, rest, rfl, Rds.of_own ha, ih hr⟩
theorem TokRd.below {w w' : World} (hb : Below w.heap.size w w') : ∀ {ts : List TokL} {xs : List Value}, TokRd w ts xs → TokRd w' ts xs := by
  intro ts
  induction ts with
  | nil => intro xs h; exact h
  | cons a ts ih => intro xs h; obtain ⟨av, rest, rfl, ha, hr⟩ := h; exact ⟨av, rest, rfl, Rds.below ha hb, ih hr⟩
theorem ToksRd.below {w w' : World} {v : Value} {ts : List TokL} (h : ToksRd w v ts) (hb : Below w.heap.size w w') : ToksRd w' v ts := by
  obtain ⟨xs, h1, h2⟩ := h; exact ⟨xs, h1.below hb, h2.below hb⟩
theorem TokRd.get {w : World} : ∀ {ts : List TokL} {xs : List Value}, TokRd w ts xs → ∀ {i : Nat} {t : TokL}, ts[i]? = some t → ∃ pv, PartsRd w pv t.parts ∧ ∀ j, j < 5 → xs[i * 5 + j]? = (tokCells t pv)[j]? := by
  intro ts
  induction ts with
  | nil => intro xs h i t hi; simp at hi
  | cons a ts ih =>
    intro xs h i t hi
    obtain ⟨av, rest, rfl, ha, hr⟩ := h
    cases i with
    | zero =>
      simp at hi; subst hi
      exact ⟨av, ha, fun j hj => by rw [List.getElem?_append_left (by simp [tokCells]; omega)]; simp⟩
    | succ i =>
      simp at hi
      obtain ⟨pv, hp, hx⟩ := ih hr hi
      refine ⟨pv, hp, fun j hj => ?_⟩
      rw [List.getElem?_append_right (by simp [tokCells]; omega), ← hx j hj]
      congr 1
      simp [tokCells]; omega
/-- One token of a list: where its cells lie. -/
structure TokIn (w : World) (g o : Nat) (t : TokL) (pv : Value) : Prop where
  kind : w.cell? ⟨g, o, none⟩ = some (.int .i64 t.kind)
  text : w.cell? ⟨g, o + 1, none⟩ = some (.string t.text)
  num : w.cell? ⟨g, o + 2, none⟩ = some (.int .i64 t.num)
  pv_ : w.cell? ⟨g, o + 3, none⟩ = some pv
  at_ : w.cell? ⟨g, o + 4, none⟩ = some (.int .i64 t.at_)
  parts : PartsRd w pv t.parts
theorem ToksRd.at {w : World} {v : Value} {ts : List TokL} (h : ToksRd w v ts) : ∃ ao cap, v = .slice ao ts.length cap ∧ ∀ i t, ts[i]? = some t → ∃ g o pv, ao = some ⟨g, o, none⟩ ∧ TokIn w g (o + i * 5) t pv := by
  obtain ⟨xs, ⟨ao, cap, rfl, hc⟩, ht⟩ := h
  refine ⟨ao, cap, rfl, fun i t hi => ?_⟩
  obtain ⟨pv, hp, hx⟩ := ht.get hi
  obtain ⟨g, o, he, h0⟩ := hc (i * 5) _ (by have := hx 0 (by omega); simpa [tokCells] using this)
  have hcell : ∀ j u, j < 5 → (tokCells t pv)[j]? = some u → w.cell? ⟨g, o + i * 5 + j, none⟩ = some u := by
    intro j u hj hu
    obtain ⟨g', o', he', h'⟩ := hc (i * 5 + j) u (by rw [hx j hj]; exact hu)
    rw [he] at he'
    simp at he'
    obtain ⟨rfl, rfl⟩ := he'
    rw [← Nat.add_assoc] at h'
    exact h'
  refine ⟨g, o, pv, he, ?_⟩
  exact ⟨hcell 0 _ (by omega) rfl, hcell 1 _ (by omega) rfl, hcell 2 _ (by omega) rfl, hcell 3 _ (by omega) rfl, hcell 4 _ (by omega) rfl, hp⟩

/-- What Lex leaves, as it is read. -/
def LexRdPost (s : ByteArray) (w : World) (e : Ending) (w' : World) : Prop :=
  ∃ v, e = .returned (.tuple #[v, .int .i64 (lexE s)]) ∧ Below w.heap.size w w' ∧ ToksRd w' v (lexT s)
theorem lex_rd (s : ByteArray) (w : World) (hs : s.size ≤ maxLen) (hv : ErrVar w) : Calls Tryz.prog 48 #[.string s] w (LexRdPost s w) :=
  (lex_any s w hs hv).mono fun e w' ⟨v, xs, he, hb, ho, hr⟩ => ⟨v, he, hb, xs, Rds.of_own ho, TokRd.of_row hr⟩
end Go.Proofs.YtlkdicabmikhkaaGreatDoor
