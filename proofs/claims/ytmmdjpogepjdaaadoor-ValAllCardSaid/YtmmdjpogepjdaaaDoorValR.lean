/- Package val: clone. -/
import Derived.Test.YtmmdjpogepjdaaaDoorValQ
namespace Go.Proofs.YtmmdjpogepjdaaaDoor
open Go.RowKit
set_option linter.unusedVariables false
set_option linter.unusedSimpArgs false

theorem may_kids {d : Nat} {v : VL} (h : mayB d v = true) : v.kids.length ≤ 64 ∧ ∀ u ∈ v.kids, mayB (d - 1) u = true := by
  have leaf : leafB v = true → v.kids.length ≤ 64 ∧ ∀ u ∈ v.kids, mayB (d - 1) u = true := by
    intro h
    have h0 : v.kids.length = 0 := by
      unfold leafB at h
      split at h
      · simp at h; exact (by simp [h.2])
      · split at h
        · simp at h; exact (by simp [h.2])
        · split at h
          · simp at h; exact (by simp [h.2])
          · cases h
    have hk : v.kids = [] := List.eq_nil_of_length_eq_zero h0
    rw [hk]
    exact ⟨by simp, fun u hu => by simp at hu⟩
  cases d with
  | zero => exact leaf h
  | succ d =>
    unfold mayB at h
    split at h
    · simp only [Bool.and_eq_true, decide_eq_true_eq, List.all_eq_true] at h
      exact ⟨h.1.2, fun u hu => h.2 u hu⟩
    · exact leaf h
def Cloned (D : Nat) (v : VL) (w : World) (e : Ending) (w' : World) : Prop := ∃ lv, e = .returned (.agg #[.int .i64 v.kind, .int .i64 v.num, .string v.text, lv]) ∧ RowIn w' (fun g => w.heap.size ≤ g) D v.kids lv ∧ Below w.heap.size w w'
def CloneOf (D : Nat) : Prop := ∀ (d : Nat) (v : VL) (lv : Value) (w : World), RowRd w D v.kids lv → mayB d v = true → Calls Tryd.prog 36 #[.agg #[.int .i64 v.kind, .int .i64 v.num, .string v.text, lv]] w (Cloned D v w)
theorem CloneOf.call {D : Nat} (h : CloneOf D) (d : Nat) (v : VL) (lv : Value) (w : World) (hr : RowRd w D v.kids lv) (hm : mayB d v = true) : Calls Tryd.prog 36 #[.agg #[.int .i64 v.kind, .int .i64 v.num, .string v.text, lv]] w (Cloned D v w) := h d v lv w hr hm
structure CInv (w wr : World) (D : Nat) (v : VL) (v' : Value) (g i : Nat) (qs : List (VL × Value)) : Prop where
  kept : Below w.heap.size w wr
  box : VBlk wr w.heap.size v v'
  res : NBlk wr (w.heap.size + 1) 0 0 ⟨#[]⟩
  fst : qs.map (·.1) = v.kids
  cells : CellsAt wr g 0 qs
  frozen : ∀ o, wr.frozen? ⟨g, o, none⟩ = false
  low : w.heap.size + 2 ≤ g
  high : g < wr.heap.size
  done : ∀ j p, qs[j]? = some p → j < i → RowIn wr (fun b => w.heap.size + 2 ≤ b ∧ b ≠ g) (D - 1) p.1.kids p.2
  todo : ∀ j p, qs[j]? = some p → i ≤ j → RowRd w (D - 1) p.1.kids p.2
theorem CInv.next {w wr w'' wx : World} {D g i : Nat} {v u : VL} {v' lu : Value} {qs : List (VL × Value)} (h : CInv w wr D v v' g i qs) (hi : i < qs.length) (hu : v.kids[i]? = some u) (hb : Below wr.heap.size wr w'') (hin : RowIn w'' (fun b => wr.heap.size ≤ b) (D - 1) u.kids lu) (hx : Upd w'' wx g i (u, lu)) :
    CInv w wx D v v' g (i + 1) (qs.set i (u, lu)) := by
  have hlow := h.low
  have hhigh := h.high
  have hsz := h.kept.size
  have far : ∀ b, b ≠ g → b < wr.heap.size → wx.heap[b]? = wr.heap[b]? := fun b hne hlt => (hx.block b hne).trans (hb.block b hlt)
  refine ⟨hx.below (by omega) (below_tr h.kept hb), ?_, ?_, ?_, ?_, fun o => ?_, hlow, ?_, fun j p hj hji => ?_, fun j p hj hji => ?_⟩
  · exact (far _ (by omega) h.box.lt).trans h.box
  · exact (far _ (by omega) h.res.lt).trans h.res
  · rw [List.map_set, h.fst]
    apply List.ext_getElem?
    intro k
    by_cases e : k = i
    · subst e; rw [List.getElem?_set_self (by have := (List.getElem?_eq_some_iff.1 hu).1; exact this), hu]
    · rw [List.getElem?_set_ne (by omega)]
  · exact hx.row (fun j q hj => by
      obtain ⟨c0, c1, c2, c3⟩ := h.cells j q hj
      exact ⟨hold hb c0, hold hb c1, hold hb c2, hold hb c3⟩) hi
  · rw [hx.frozen o]
    exact (hb.frozen (p := ⟨g, o, none⟩) hhigh).trans (h.frozen o)
  · rw [hx.size]; exact Nat.lt_of_lt_of_le hhigh hb.size
  · by_cases e : j = i
    · subst e
      rw [List.getElem?_set_self hi] at hj
      cases hj
      exact RowIn.keep (fun b hb' => ⟨by omega, by omega⟩) (fun b o z hb' hz => hx.far (by omega) hz) hin
    · rw [List.getElem?_set_ne (by omega)] at hj
      exact RowIn.keep (fun b hb' => hb') (fun b o z hb' hz => hx.far hb'.2 (hold hb hz)) (h.done j p hj (by omega))
  · rw [List.getElem?_set_ne (by omega)] at hj
    exact h.todo j p hj (by omega)
theorem CInv.whole {w wr : World} {D g : Nat} {v : VL} {qs : List (VL × Value)} {cap : Nat} (h : CInv w wr D v (.slice (some ⟨g, 0, none⟩) v.kids.length cap) g v.kids.length qs) (hD : 0 < D) (hl : v.kids.length ≤ maxLen) :
    RowIn wr (fun b => w.heap.size + 2 ≤ b) D v.kids (.slice (some ⟨g, 0, none⟩) v.kids.length cap) := by
  obtain ⟨D, rfl⟩ : ∃ E, D = E + 1 := ⟨D - 1, by omega⟩
  refine ⟨hl, _, _, rfl, fun i u hu => ?_⟩
  have hlen : qs.length = v.kids.length := by rw [← h.fst]; simp
  obtain ⟨p, hp⟩ : ∃ p, qs[i]? = some p := ⟨_, List.getElem?_eq_getElem (by have := (List.getElem?_eq_some_iff.1 hu).1; omega)⟩
  have hpu : p.1 = u := by
    have h2 := h.fst
    have h3 : (qs.map (·.1))[i]? = some p.1 := by rw [List.getElem?_map, hp]; rfl
    rw [h2, hu] at h3
    exact (Option.some.inj h3).symm
  obtain ⟨c0, c1, c2, c3⟩ := h.cells i p hp
  rw [hpu] at c0 c1 c2
  have hin := h.done i p hp (by have := (List.getElem?_eq_some_iff.1 hu).1; omega)
  rw [hpu] at hin
  exact ⟨g, 0, p.2, rfl, h.low, c0, c1, c2, c3, RowIn.keep (fun b hb => hb.1) (fun b o z _ hz => hz) hin⟩
end Go.Proofs.YtmmdjpogepjdaaaDoor
