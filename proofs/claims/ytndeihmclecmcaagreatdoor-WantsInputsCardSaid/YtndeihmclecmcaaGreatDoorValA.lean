/- Values: what they are, how they are read. -/
import Derived.Test.YtndeihmclecmcaaGreatDoorBase
namespace Go.Proofs.YtndeihmclecmcaaGreatDoor
open Go.RowKit
set_option linter.unusedVariables false
set_option linter.unusedSimpArgs false

/-- A value: kind, number, text, list. -/
inductive VL where
  | mk (kind num : Int) (text : ByteArray) (kids : List VL)
def VL.kind : VL → Int | .mk k _ _ _ => k
def VL.num : VL → Int | .mk _ n _ _ => n
def VL.text : VL → ByteArray | .mk _ _ s _ => s
def VL.kids : VL → List VL | .mk _ _ _ l => l
/-- Row l as the slice value lv reads, at most D deep. -/
def RowRd (w : World) : Nat → List VL → Value → Prop
  | 0, l, lv => l = [] ∧ ∃ ao cap, lv = .slice ao 0 cap
  | D + 1, l, lv => l.length ≤ maxLen ∧ ∃ ao cap, lv = .slice ao l.length cap ∧ ∀ (i : Nat) (u : VL), l[i]? = some u → ∃ (g o : Nat) (lu : Value), ao = some ⟨g, o, none⟩ ∧
      w.cell? ⟨g, o + i * 4, none⟩ = some (.int .i64 u.kind) ∧ w.cell? ⟨g, o + i * 4 + 1, none⟩ = some (.int .i64 u.num) ∧ w.cell? ⟨g, o + i * 4 + 2, none⟩ = some (.string u.text) ∧ w.cell? ⟨g, o + i * 4 + 3, none⟩ = some lu ∧ RowRd w D u.kids lu
theorem RowRd.shape {w : World} {D : Nat} {l : List VL} {lv : Value} (h : RowRd w D l lv) : ∃ ao cap, lv = .slice ao l.length cap := by
  cases D with
  | zero => obtain ⟨rfl, ao, cap, rfl⟩ := h; exact ⟨ao, cap, rfl⟩
  | succ D => obtain ⟨-, ao, cap, rfl, -⟩ := h; exact ⟨ao, cap, rfl⟩
theorem RowRd.len {w : World} {D : Nat} {l : List VL} {lv : Value} (h : RowRd w D l lv) : l.length ≤ maxLen := by
  cases D with
  | zero => obtain ⟨rfl, -⟩ := h; exact Nat.zero_le _
  | succ D => exact h.1
theorem RowRd.below {w w' : World} (hb : Below w.heap.size w w') : ∀ {D : Nat} {l : List VL} {lv : Value}, RowRd w D l lv → RowRd w' D l lv := by
  intro D
  induction D with
  | zero => intro l lv h; exact h
  | succ D ih =>
    intro l lv h
    obtain ⟨hl, ao, cap, rfl, hc⟩ := h
    refine ⟨hl, ao, cap, rfl, fun i u hu => ?_⟩
    obtain ⟨g, o, lu, e, c0, c1, c2, c3, hr⟩ := hc i u hu
    have k : ∀ {p : Addr} {x : Value}, w.cell? p = some x → w'.cell? p = some x := fun {p x} hx => (hb.cell (p := p) (World.block_lt_of_cell? w _ hx)).trans hx
    exact ⟨g, o, lu, e, k c0, k c1, k c2, k c3, ih hr⟩
theorem RowRd.more {w : World} : ∀ {D : Nat} {l : List VL} {lv : Value}, RowRd w D l lv → RowRd w (D + 1) l lv := by
  intro D
  induction D with
  | zero => intro l lv h; obtain ⟨rfl, ao, cap, rfl⟩ := h; exact ⟨Nat.zero_le _, ao, cap, rfl, fun i u hu => by simp at hu⟩
  | succ D ih =>
    intro l lv h
    obtain ⟨hl, ao, cap, rfl, hc⟩ := h
    refine ⟨hl, ao, cap, rfl, fun i u hu => ?_⟩
    obtain ⟨g, o, lu, e, c0, c1, c2, c3, hr⟩ := hc i u hu
    exact ⟨g, o, lu, e, c0, c1, c2, c3, ih hr⟩
theorem RowRd.up {w : World} {D E : Nat} {l : List VL} {lv : Value} (h : RowRd w D l lv) (hE : D ≤ E) : RowRd w E l lv := by
  induction E with
  | zero => obtain rfl : D = 0 := by omega
            exact h
  | succ E ih =>
    by_cases hD : D = E + 1
    · rw [← hD]; exact h
    · exact (ih (by omega)).more
/-- One value of a row: where its cells lie, how its own row reads. -/
theorem RowRd.at {w : World} {D : Nat} {l : List VL} {lv : Value} (h : RowRd w D l lv) : ∃ ao cap, lv = .slice ao l.length cap ∧ ∀ (i : Nat) (u : VL), l[i]? = some u → ∃ (g o : Nat) (lu : Value), ao = some ⟨g, o, none⟩ ∧ 0 < D ∧
      w.cell? ⟨g, o + i * 4, none⟩ = some (.int .i64 u.kind) ∧ w.cell? ⟨g, o + i * 4 + 1, none⟩ = some (.int .i64 u.num) ∧ w.cell? ⟨g, o + i * 4 + 2, none⟩ = some (.string u.text) ∧ w.cell? ⟨g, o + i * 4 + 3, none⟩ = some lu ∧ RowRd w (D - 1) u.kids lu := by
  cases D with
  | zero => obtain ⟨rfl, ao, cap, rfl⟩ := h; exact ⟨ao, cap, rfl, fun i u hu => by simp at hu⟩
  | succ D =>
    obtain ⟨hl, ao, cap, rfl, hc⟩ := h
    refine ⟨ao, cap, rfl, fun i u hu => ?_⟩
    obtain ⟨g, o, lu, e, c0, c1, c2, c3, hr⟩ := hc i u hu
    exact ⟨g, o, lu, e, by omega, c0, c1, c2, c3, hr⟩
theorem RowRd.nil (w : World) (D : Nat) (ao : Option Addr) (cap : Nat) : RowRd w D [] (.slice ao 0 cap) := RowRd.up (D := 0) ⟨rfl, ao, cap, rfl⟩ (Nat.zero_le _)
/-- A value as it goes from call to call. -/
def VL.val (v : VL) (lv : Value) : Value := .agg #[.int .i64 v.kind, .int .i64 v.num, .string v.text, lv]
/-- The block of one value that was boxed. -/
def VBlk (w : World) (g : Nat) (v : VL) (lv : Value) : Prop := w.heap[g]? = some (.cells #[.int .i64 v.kind, .int .i64 v.num, .string v.text, lv] 39 (0, 0))
theorem VBlk.cells {w : World} {g : Nat} {v : VL} {lv : Value} (h : VBlk w g v lv) :
    w.cell? ⟨g, 0, none⟩ = some (.int .i64 v.kind) ∧ w.cell? ⟨g, 1, none⟩ = some (.int .i64 v.num) ∧ w.cell? ⟨g, 2, none⟩ = some (.string v.text) ∧ w.cell? ⟨g, 3, none⟩ = some lv :=
  ⟨cell_of_row w g 0 _ _ _ h, cell_of_row w g 1 _ _ _ h, cell_of_row w g 2 _ _ _ h, cell_of_row w g 3 _ _ _ h⟩
theorem VBlk.lt {w : World} {g : Nat} {v : VL} {lv : Value} (h : VBlk w g v lv) : g < w.heap.size := by
  rcases Nat.lt_or_ge g w.heap.size with hlt | hge
  · exact hlt
  · unfold VBlk at h; rw [Array.getElem?_eq_none hge] at h; cases h
theorem VBlk.below {w w' : World} {g : Nat} {v : VL} {lv : Value} (h : VBlk w g v lv) (hb : Below w.heap.size w w') : VBlk w' g v lv := (hb.block g h.lt).trans h
theorem VBlk.new (w : World) (v : VL) (lv : Value) : VBlk (w.alloc (.cells #[.int .i64 v.kind, .int .i64 v.num, .string v.text, lv] 39)) w.heap.size v lv := heap_alloc_new w _
/-- What a call tells that answers a value, or an error. -/
def Tells (D : Nat) (r : VL × Int) (w : World) (e : Ending) (w' : World) : Prop := ∃ lv, e = .returned (.tuple #[r.1.val lv, .int .i64 r.2]) ∧ RowRd w' D r.1.kids lv ∧ Below w.heap.size w w'
def vz : VL := .mk 0 0 ⟨#[]⟩ []
def vnum (n : Int) : VL := .mk 1 n ⟨#[]⟩ []
def vstr (s : ByteArray) : VL := .mk 2 0 s []
def vbool (b : Bool) : VL := .mk 3 (if b then 1 else 0) ⟨#[]⟩ []
def vlist (l : List VL) : VL := .mk 4 0 ⟨#[]⟩ l
/-- Alike, so deep. -/
def sameB : Nat → VL → VL → Bool
  | 0, a, b => a.kind == b.kind && a.num == b.num && a.text.toList == b.text.toList && a.kids.length == b.kids.length
  | D + 1, a, b => a.kind == b.kind && a.num == b.num && a.text.toList == b.text.toList && a.kids.length == b.kids.length && (a.kids.zip b.kids).all fun p => sameB D p.1 p.2
theorem sameB_refl : ∀ (D : Nat) (v : VL), sameB D v v = true := by
  intro D
  induction D with
  | zero => intro v; simp [sameB]
  | succ D ih =>
    intro v
    simp only [sameB, beq_self_eq_true, Bool.and_self, Bool.true_and]
    rw [List.all_eq_true]
    intro p hp
    have : p.1 = p.2 := by
      obtain ⟨i, hi, rfl⟩ := List.mem_iff_getElem.1 hp
      simp
    rw [this]; exact ih _
end Go.Proofs.YtndeihmclecmcaaGreatDoor
