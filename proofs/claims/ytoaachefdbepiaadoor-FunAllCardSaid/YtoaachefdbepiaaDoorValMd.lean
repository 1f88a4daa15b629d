/- Values by numbers: Make of a list. -/
import Derived.Test.YtoaachefdbepiaaDoorValMc
import Derived.Deep.AppendLies
import Derived.Deep.RegionLaw
import Derived.OneCell
namespace Go.Proofs.YtoaachefdbepiaaDoor
open Go.RowKit
set_option linter.unusedVariables false
set_option linter.unusedSimpArgs false

/-- A row of the call's own, all blocks of which P holds. -/
theorem rowIn_of_own {w : World} {P Q : Nat → Prop} {B D : Nat} {ps : List (VL × Value)} {v : Value} (h : w.ownsRow B 26 4 v ps.length (rowCells ps)) (hl : ps.length ≤ maxLen) (hk : ∀ p ∈ ps, RowIn w Q D p.1.kids p.2) (hQ : ∀ g, Q g → P g) (hB : ∀ g, B ≤ g → P g) :
    RowIn w P (D + 1) (ps.map (·.1)) v := by
  rcases h.2 with ⟨rfl, h0⟩ | ⟨g, cap, cur, rfl, hbg, _⟩
  · obtain rfl : ps = [] := List.eq_nil_of_length_eq_zero h0
    exact rowIn_nil _ _ _ _ _
  · refine ⟨by simpa using hl, some ⟨g, 0, none⟩, cap, by simp, fun i u hu => ?_⟩
    rw [List.getElem?_map] at hu
    obtain ⟨p, hp, rfl⟩ := Option.map_eq_some_iff.1 hu
    have k : ∀ r u, r < 4 → (pairCells p)[r]? = some u → w.cell? ⟨g, i * 4 + r, none⟩ = some u := by
      intro r u hr hu
      have := World.ownsRow.cells (g := g) h rfl _ u (rowCells_at ps i r p u hp hr hu)
      have ha : (⟨g, 0, none⟩ : Addr).add (i * 4 + r) = ⟨g, 0 + (i * 4 + r), none⟩ := by unfold Addr.add; split <;> simp_all
      rw [ha, Nat.zero_add] at this
      exact this
    have z0 := k 0 _ (by omega) rfl
    have z1 := k 1 _ (by omega) rfl
    have z2 := k 2 _ (by omega) rfl
    have z3 := k 3 _ (by omega) rfl
    refine ⟨g, 0, p.2, rfl, hB g hbg, ?_, ?_, ?_, ?_, RowIn.keep hQ (fun _ _ _ _ h => h) (hk p (List.mem_of_getElem? hp))⟩
    · rw [Nat.zero_add]; simpa using z0
    · rw [Nat.zero_add]; exact z1
    · rw [Nat.zero_add]; exact z2
    · rw [Nat.zero_add]; exact z3
theorem rowIn_lt {w : World} {P : Nat → Prop} : ∀ {D : Nat} {l : List VL} {lv : Value}, RowIn w P D l lv → RowIn w (fun g => P g ∧ g < w.heap.size) D l lv := by
  intro D
  induction D with
  | zero => intro l lv h; exact h
  | succ D ih =>
    intro l lv h
    obtain ⟨hl, ao, cap, rfl, hc⟩ := h
    refine ⟨hl, ao, cap, rfl, fun i u hu => ?_⟩
    obtain ⟨g, o, lu, e, hp, c0, c1, c2, c3, hr⟩ := hc i u hu
    exact ⟨g, o, lu, e, ⟨hp, World.block_lt_of_cell? _ _ c0⟩, c0, c1, c2, c3, ih hr⟩
theorem grown_keep6 {a b : World} {row : Option Nat} (h : a.grownBy b row) {p : Addr} {u : Value} (hp : a.cell? p = some u) (hr : ∀ k, row = some k → k ≠ p.block) : b.cell? p = some u :=
  (World.cell?_of_block (h.block _ (World.block_lt_of_cell? _ _ hp) (fun e => hr _ e.symm rfl))).trans hp
theorem grown_free6 {a b : World} {row : Option Nat} (h : a.grownBy b row) {g o : Nat} (hg : g < a.heap.size) (hp : a.frozen? ⟨g, o, none⟩ = false) (hr : ∀ k, row = some k → k ≠ g) : b.frozen? ⟨g, o, none⟩ = false :=
  (World.frozen?_of_block (a := ⟨g, o, none⟩) (h.block _ hg (fun e => hr _ e.symm rfl))).trans hp
theorem numsRd_sub {w : World} {k : IntKind} {g o cap : Nat} {xs : List Int} (h : NumsRd k w (.slice (some ⟨g, o, none⟩) xs.length cap) xs) (i m c2 : Nat) (hm : i + m ≤ xs.length) : NumsRd k w (.slice (some ⟨g, o + i, none⟩) m c2) ((xs.drop i).take m) := by
  obtain ⟨ao, cap', e, hc⟩ := h
  simp only [Value.slice.injEq, true_and] at e
  obtain ⟨rfl, -⟩ := e
  have hl : ((xs.drop i).take m).length = m := by simp; omega
  refine ⟨_, _, by rw [hl], fun j x hj => ?_⟩
  rw [List.getElem?_take] at hj
  split at hj
  · rw [List.getElem?_drop] at hj
    obtain ⟨g', o', e', hx⟩ := hc _ _ hj
    simp only [Option.some.injEq, Addr.mk.injEq, and_true] at e'
    obtain ⟨rfl, rfl⟩ := e'
    exact ⟨_, _, rfl, by rw [Nat.add_assoc]; exact hx⟩
  · cases hj
theorem below_undrew {B : Nat} {a w : World} (h : Below B a.drew w) : Below B a w := ⟨h.os, h.tape, h.output, h.size, h.block⟩
theorem blk_set_last {w : World} {g : Nat} {v0 v1 v2 v3 : Value} {t : TypeId} (hg : w.heap[g]? = some (.cells #[v0, v1, v2, v3] t (0, 0))) (v : Value) : (w.setCell ⟨g, 3, none⟩ v).heap[g]? = some (.cells #[v0, v1, v2, v] t (0, 0)) := by
  have h := heap_setCell_same w g 3 _ _ v hg
  exact h
theorem make_next {w wr wm w6 : World} {f j gg cc lc ucap : Nat} {lo uao : Option Addr} {ps : List (VL × Value)} {u : VL} (hb : Below w.heap.size w wr) (hm : Below wr.heap.size wr wm) (hres : NBlk wr w.heap.size 0 0 ⟨#[]⟩)
    (hbox : wr.heap[w.heap.size + 1]? = some (.cells #[.int .i64 4, .int .i64 0, .string ⟨#[]⟩, .slice lo j lc] 26 (0, 0)))
    (ho : wr.ownsRow (w.heap.size + 1 + 1) 26 4 (.slice lo j lc) j (rowCells ps))
    (hk : ∀ p ∈ ps, RowIn wr (fun b => w.heap.size + 1 + 1 ≤ b ∧ b < wr.heap.size ∧ (Value.slice lo j lc).ownBlock ≠ some b) f p.1.kids p.2)
    (hu : RowIn wm (fun g => wr.heap.size ≤ g) f u.kids (.slice uao u.kids.length ucap))
    (hg : wm.grownBy w6 (Value.slice lo j lc).ownBlock)
    (hown : w6.ownsRow (w.heap.size + 1 + 1) 26 4 (.slice (some ⟨gg, 0, none⟩) (j + 1) cc) (j + 1) (rowCells ps ++ [.int .i64 u.kind, .int .i64 u.num, .string u.text, .slice uao u.kids.length ucap]))
    (hat : (Value.slice lo j lc).ownBlock = some gg ∨ gg = wm.heap.size + 1) (hlt : gg < w6.heap.size) (x : World) (hx : x = w6.setCell ⟨w.heap.size + 1, 3, none⟩ (.slice (some ⟨gg, 0, none⟩) (j + 1) cc)) :
    Below w.heap.size w x ∧ NBlk x w.heap.size 0 0 ⟨#[]⟩ ∧ x.heap[w.heap.size + 1]? = some (.cells #[.int .i64 4, .int .i64 0, .string ⟨#[]⟩, .slice (some ⟨gg, 0, none⟩) (j + 1) cc] 26 (0, 0)) ∧
    x.ownsRow (w.heap.size + 1 + 1) 26 4 (.slice (some ⟨gg, 0, none⟩) (j + 1) cc) (j + 1) (rowCells (ps ++ [(u, .slice uao u.kids.length ucap)])) ∧
    ∀ p ∈ ps ++ [(u, .slice uao u.kids.length ucap)], RowIn x (fun b => w.heap.size + 1 + 1 ≤ b ∧ b < x.heap.size ∧ (Value.slice (some ⟨gg, 0, none⟩) (j + 1) cc).ownBlock ≠ some b) f p.1.kids p.2 := by
  have hn : ∀ b, (Value.slice lo j lc).ownBlock = some b → w.heap.size + 1 + 1 ≤ b ∧ b < wr.heap.size := fun b hb => World.ownsRow.lt ho b hb
  have g1 : w.heap.size + 1 < wr.heap.size := (Array.getElem?_eq_some_iff.1 hbox).1
  have s1 := hm.size
  have s2 := hg.size
  have sx : x.heap.size = w6.heap.size := by rw [hx]; simp [World.setCell]
  have far : ∀ b, b < wm.heap.size → some b ≠ (Value.slice lo j lc).ownBlock → b ≠ w.heap.size + 1 → x.heap[b]? = wm.heap[b]? := fun b h1 h2 h3 => by
    rw [hx, Below.heap_setCell _ _ _ _ h3]; exact hg.block b h1 h2
  have low : ∀ b, b < w.heap.size + 1 + 1 → some b ≠ (Value.slice lo j lc).ownBlock := fun b h e => by have := (hn b e.symm).1; omega
  have keep : ∀ (b o : Nat) (z : Value), b < wm.heap.size → some b ≠ (Value.slice lo j lc).ownBlock → b ≠ w.heap.size + 1 → wm.cell? ⟨b, o, none⟩ = some z → x.cell? ⟨b, o, none⟩ = some z := fun b o z h1 h2 h3 hz =>
    (World.cell?_of_block (a := ⟨b, o, none⟩) (far b h1 h2 h3)).trans hz
  refine ⟨?_, ?_, ?_, ?_, ?_⟩
  · have hb2 := below_tr hb hm
    refine ⟨?_, ?_, ?_, by have := hb2.size; omega, fun b h => (far b (by have := hb2.size; omega) (low b (by omega)) (by omega)).trans (hb2.block b h)⟩
    · rw [hx]; exact hg.os.trans hb2.os
    · rw [hx]; exact hg.tape.trans hb2.tape
    · rw [hx]; exact hg.output.trans hb2.output
  · exact (far _ (by omega) (low _ (by omega)) (by omega)).trans ((hm.block _ (by omega)).trans hres)
  · rw [hx]
    refine blk_set_last (v3 := .slice lo j lc) ?_ _
    exact (hg.block _ (by omega) (low _ (by omega))).trans ((hm.block _ g1).trans hbox)
  · rw [hx, rowCells_snoc]
    refine ownsRow_setCell_other hown (fun e => ?_) _
    simp only [Value.ownBlock, Option.some.injEq] at e
    rcases hat with h | h
    · have := (hn gg h).1; omega
    · omega
  · intro p hp
    have fresh : ∀ b, (b < wm.heap.size ∧ (Value.slice lo j lc).ownBlock ≠ some b) → (Value.slice (some ⟨gg, 0, none⟩) (j + 1) cc).ownBlock ≠ some b := fun b h e => by
      simp only [Value.ownBlock, Option.some.injEq] at e
      subst e
      rcases hat with h' | h'
      · exact h.2 h'
      · omega
    rcases List.mem_append.1 hp with hp | hp
    · refine RowIn.keep (fun b h => ⟨h.1, by omega, fresh b ⟨by omega, h.2.2⟩⟩) (fun b o z h hz => ?_) (hk p hp)
      exact keep b o z (by omega) (fun e => h.2.2 e.symm) (by omega) ((hm.cell (p := ⟨b, o, none⟩) h.2.1).trans hz)
    · simp only [List.mem_singleton] at hp
      subst hp
      exact RowIn.keep (fun b h => ⟨by have := h.1; omega, by have := h.2; omega, fresh b ⟨h.2, fun e => by have := (hn b e).2; have := h.1; omega⟩⟩)
        (fun b o z h hz => keep b o z h.2 (fun e => by have := (hn b e.symm).2; have := h.1; omega) (by have := h.1; omega) hz) (rowIn_lt hu)
def CapOk (v : Value) : Prop := ∀ ao n cap, v = .slice ao n cap → n ≤ cap
end Go.Proofs.YtoaachefdbepiaaDoor
