/- Live trees: the document's Create, walked. -/
import Derived.Test.YtekaefeogbmmmaaTrH
namespace Go.Proofs.Ytekaefeogbmmmaa
open Go.RowKit
set_option linter.unusedVariables false
set_option linter.unusedSimpArgs false
/-- A call that answers row l, which it made. -/
def MadeI (l : List I12) (w : World) (e : Ending) (w' : World) : Prop := ∃ v, e = .returned v ∧ Below w.heap.size w w' ∧ IOwn w' w.heap.size l v
/-- What a Create, an Admit answers: a row that it made, or an error. -/
def GrownI (E : Nat) (l : List I12) (w : World) (e : Ending) (w' : World) : Prop := ∃ v, e = .returned (.agg #[v, .int .i64 (E : Int)]) ∧ Below w.heap.size w w' ∧ IOwn w' w.heap.size (if E = 0 then l else []) v
theorem IOwn_nil (w : World) (B : Nat) : IOwn w B [] (.slice none 0 0) := own_none _ _ _ _
/-- The block of an answer. -/
def GBlk (w : World) (g : Nat) (v : Value) (E : Int) : Prop := w.heap[g]? = some (.cells #[v, .int .i64 E] 31 (0, 0))
theorem GBlk.lt {w : World} {g : Nat} {v : Value} {E : Int} (h : GBlk w g v E) : g < w.heap.size := (Array.getElem?_eq_some_iff.1 h).1
theorem GBlk.cells {w : World} {g : Nat} {v : Value} {E : Int} (h : GBlk w g v E) : w.cell? ⟨g, 0, none⟩ = some v ∧ w.cell? ⟨g, 1, none⟩ = some (.int .i64 E) := ⟨(cell_of_row _ _ 0 _ _ _ h).trans rfl, (cell_of_row _ _ 1 _ _ _ h).trans rfl⟩
theorem GBlk.below {w w' : World} {g : Nat} {v : Value} {E : Int} (h : GBlk w g v E) (hb : Below w.heap.size w w') : GBlk w' g v E := (hb.block g h.lt).trans h
theorem GBlk.new (w : World) (v : Value) (E : Int) : GBlk (w.alloc (.cells #[v, .int .i64 E] 31)) w.heap.size v E := heap_alloc_new w _
theorem GBlk.free {w : World} {g : Nat} {v : Value} {E : Int} (h : GBlk w g v E) (o : Nat) : w.frozen? ⟨g, o, none⟩ = false := by
  unfold GBlk at h
  simp [World.frozen?, h]
theorem GBlk.set {w : World} {g : Nat} {v : Value} {E : Int} (h : GBlk w g v E) (v' : Value) (E' : Int) : GBlk ((w.setCell ⟨g, 0, none⟩ v').setCell ⟨g, 1, none⟩ (.int .i64 E')) g v' E' := by
  have h0 := heap_setCell_same w g 0 _ _ v' h
  exact heap_setCell_same _ g 1 _ _ (.int .i64 E') h0
theorem IOwn.far {w : World} {B g : Nat} {l : List I12} {v : Value} (h : IOwn w B l v) (hg : v.ownBlock ≠ some g) (a b : Value) : IOwn ((w.setCell ⟨g, 0, none⟩ a).setCell ⟨g, 1, none⟩ b) B l v := by
  have hsz : ((w.setCell ⟨g, 0, none⟩ a).setCell ⟨g, 1, none⟩ b).heap.size = w.heap.size := by simp
  refine ⟨h.1, ?_⟩
  rcases h.2 with hn | ⟨f, cap, cur, rfl, hbf, hf, r⟩
  · exact .inl hn
  · have hne : f ≠ g := fun e => hg (by subst e; rfl)
    refine .inr ⟨f, cap, cur, rfl, hbf, ?_, r⟩
    rw [Below.heap_setCell _ _ _ _ hne, Below.heap_setCell _ _ _ _ hne]; exact hf
theorem IOwn.apart {w : World} {B g : Nat} {l : List I12} {v u : Value} {E : Int} (h : IOwn w B l v) (hg : GBlk w g u E) : v.ownBlock ≠ some g := by
  intro e
  rcases h.2 with ⟨rfl, -⟩ | ⟨f, cap, cur, rfl, hbf, hf, r⟩
  · cases e
  · obtain rfl : f = g := by
      have : (Value.slice (some ⟨f, 0, none⟩) l.length cap).ownBlock = some f := rfl
      rw [this] at e; exact Option.some.inj e
    unfold GBlk at hg
    rw [hf] at hg
    simp only [Option.some.injEq, Obj.cells.injEq] at hg
    exact absurd hg.2.1 (by decide)
theorem below_set2 {B : Nat} {w W : World} (h : Below B w W) {g : Nat} (hg : B ≤ g) (v0 v1 : Value) : Below B w ((W.setCell ⟨g, 0, none⟩ v0).setCell ⟨g, 1, none⟩ v1) := (h.setCell hg _).setCell hg _
section
variable (w : World)
theorem rno (E : Nat) : Calls Try.prog 28 #[.int .i64 (E : Int)] w (Made (.agg #[.slice none 0 0, .int .i64 (E : Int)]) w) := by
  go_enter Try.func28, Try.ntmps28
  go_wp2_with fail
  exact bodyPost_ret (v := .agg #[.slice none 0 0, .int .i64 (E : Int)]) (by simp [results, Try.results28, go_sem]) rfl ⟨rfl, below_al (Below.refl _ _) _⟩
set_option maxHeartbeats 4000000 in
set_option maxRecDepth 20000 in
theorem rcopied (l : List I12) (lv : Value) (h : IRow w l lv) (hl : l.length ≤ 1000) : Calls Try.prog 29 #[lv] w (MadeI l w) := by
  obtain ⟨i0, hi0, hz0, hz1, hz2⟩ := info_partsT info_item
  obtain ⟨ao, cap, rfl⟩ := h.shape
  have BE := Lib.hid (below_al (Below.refl w.heap.size w) (.cells #[] 40))
  have E0 := Lib.hid (show (w.alloc (.cells #[] 40)).ownsRow w.heap.size 40 12 (.slice (some ⟨w.heap.size, 0, none⟩) 0 0) 0 [] from ⟨by simp, .inr ⟨w.heap.size, 0, #[], rfl, Nat.le_refl _, heap_alloc_new w _, Nat.le_refl _, Nat.zero_le _, by simp, by simp⟩⟩)
  obtain ⟨S1, S2⟩ := (h.below BE.out).src
  have s1 := Lib.hid S1
  have s2 := Lib.hid S2
  clear S1 S2 h
  go_enter Try.func29, Try.ntmps29
  go_wp2_with (at_builtin; refine wpList_append_any _ rfl _ _ 22 rfl w.heap.size 40 i0 _ 12 112 Try.underlying22 hi0 hz0 hz1 hz2 rfl (by decide) (.slice (some ⟨w.heap.size, 0, none⟩) 0 0) 0 [] rfl E0.out ao l.length cap (i12s l) rfl (i12s_len l) s1.out s2.out (i12s_one _) (by unfold maxLen; omega) (by omega) (by simp) ?_)
  intro v1 w1 hown1 hg1
  have B1 := Lib.hid (below_grown' BE.out hg1 (fun q hq => by have h := (World.ownsRow.lt E0.out q hq).1; omega))
  have O1 := Lib.hid (show IOwn w1 w.heap.size l v1 by unfold IOwn; first | exact hown1 | (rw [Nat.zero_add] at hown1; exact hown1) | simpa using hown1)
  clear hown1 hg1 s1 s2 E0 BE
  go_wp2_with fail
  go_ret
  exact ⟨_, rfl, B1.out, O1.out⟩
end
end Go.Proofs.Ytekaefeogbmmmaa
