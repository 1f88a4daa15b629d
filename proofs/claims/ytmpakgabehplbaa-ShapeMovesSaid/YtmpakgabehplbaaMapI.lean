/- A map of rows of places, with each row's own slice. -/
import Derived.Test.YtmpakgabehplbaaNatC
import Derived.Maps.OwnSet
import Derived.Maps.Views
import Derived.StringKeys
import Derived.Deep.RegionLaw
import Derived.Deep.AppendLies
namespace Go.Proofs.Ytmpakgabehplbaa
open Go.RowKit
set_option linter.unusedVariables false
set_option linter.unusedSimpArgs false
def keyW (x : ByteArray) : Lit := .string x.data.toList
theorem keyW_ne {x y : ByteArray} (h : x ≠ y) : keyW x ≠ keyW y := fun e => h (by
  simp only [keyW, Lit.string.injEq] at e
  exact ByteArray.ext (Array.ext' e))
theorem keyW_key (x : ByteArray) : WideAt.IsKeyLit (keyW x) := by simp [keyW, WideAt.IsKeyLit]
theorem strKeyedW : Maps.Keyed Try.prog 9 := Maps.string_keyed Try.underlying9
/-- An entry reads as itself. -/
def heldW (v : Value) : Option (DataW Value × List MemPlace) := some (.held v, [])
abbrev nilS : Value := .slice none 0 0
theorem ownsMap_below {w w' : World} {g n : Nat} {d : DataW Value} (h : w.ownsMap Try.prog 9 heldW g n d) (hb : w'.heap[g]? = w.heap[g]?) : w'.ownsMap Try.prog 9 heldW g n d := by
  obtain ⟨es, clock, hblk, r⟩ := h
  exact ⟨es, clock, hb.trans hblk, r⟩
theorem grownDA {w w6 : World} {O : Obj} {row : Option Nat} (h : (w.alloc O).drew.grownBy w6 row) : w.grownBy w6 row :=
  grown_trans (World.grownBy_alloc w O row) ⟨h.os, h.tape, h.output, h.size, h.block⟩
end Go.Proofs.Ytmpakgabehplbaa
namespace Go.Proofs.Ytmpakgabehplbaa
open Go.RowKit
set_option linter.unusedVariables false
set_option linter.unusedSimpArgs false
theorem nilS_run (w : World) : (zeroValue 74).run Try.prog w = .ok nilS w := by kernel_rfl
/-- The map at block g: d are its entries, V their rows, L what these hold. -/
structure MapIn (w : World) (B g n : Nat) (d : DataW Value) (V : ByteArray → Value) (L : ByteArray → List Nat) : Prop where
  map : w.ownsMap Try.prog 9 heldW g n d
  at' : ∀ x, d.atKey (keyW x) (.held nilS) = .held (V x)
  row : ∀ x, w.ownsRow B 3 1 (V x) (L x).length (natC (L x))
  apart : ∀ x y k, x ≠ y → (V x).ownBlock = some k → (V y).ownBlock ≠ some k
  off : ∀ x, (V x).ownBlock ≠ some g
  nil : ∀ x, L x = [] → V x = nilS
theorem MapIn.lt {w : World} {B g n : Nat} {d : DataW Value} {V : ByteArray → Value} {L : ByteArray → List Nat} (h : MapIn w B g n d V L) : g < w.heap.size := World.ownsMap.lt h.map
theorem MapIn.alloc {w : World} {B g n : Nat} {d : DataW Value} {V : ByteArray → Value} {L : ByteArray → List Nat} (h : MapIn w B g n d V L) (O : Obj) : MapIn (w.alloc O) B g n d V L :=
  ⟨World.ownsMap.alloc h.map O, h.at', fun x => World.ownsRow.alloc (h.row x) O, h.apart, h.off, h.nil⟩
theorem MapIn.new (w : World) : MapIn (w.alloc (.map #[] 0)) w.heap.size w.heap.size 0 (.map []) (fun _ => nilS) (fun _ => []) :=
  ⟨World.ownsMap_made w _ _ _, fun x => rfl, fun x => (own_none _ _ _ _ : World.ownsRow _ _ _ _ _ _ _), fun x y k _ h => by (simp [Value.ownBlock] at h), fun x h => by (simp [Value.ownBlock] at h), fun x _ => rfl⟩
/-- A row with one more is put. -/
theorem MapIn.put {w w6 w7 : World} {B g n : Nat} {d : DataW Value} {V : ByteArray → Value} {L : ByteArray → List Nat} (h : MapIn w B g n d V L) {s : ByteArray} {v : Value} {xs : List Nat}
    (hg6 : w.grownBy w6 (V s).ownBlock) (h7 : w7.ownsMap Try.prog 9 heldW g (n + 1) (d.put (keyW s) (.held v))) (hg7 : w6.grownBy w7 (some g))
    (ho : w6.ownsRow B 3 1 v xs.length (natC xs)) (hat : (V s).ownBlock = v.ownBlock ∨ v.ownBlock = some w.heap.size) (hne : xs ≠ []) :
    MapIn w7 B g (n + 1) (d.put (keyW s) (.held v)) (fun x => if x = s then v else V x) (fun x => if x = s then xs else L x) := by
  have hM : Maps.IsMap d := World.ownsMap.isMap h.map
  have hlt : ∀ x k, (V x).ownBlock = some k → k < w.heap.size := fun x k hk => ((h.row x).lt k hk).2
  have hvg : v.ownBlock ≠ some g := fun e => by
    rcases hat with h1 | h1
    · rw [e] at h1; exact h.off s h1
    · rw [h1] at e
      have := h.lt
      simp at e; omega
  refine ⟨h7, fun x => ?_, fun x => ?_, fun x y k hxy hk => ?_, fun x => ?_, fun x => ?_⟩
  · by_cases hx : x = s
    · subst hx; simp only [if_true]; exact Maps.atKey_put_same hM (keyW_key x) _ _
    · simp only [if_neg hx]; rw [Maps.atKey_put_other (keyW_ne hx)]; exact h.at' x
  · by_cases hx : x = s
    · subst hx; simp only [if_true]; exact ho.kept hg7 (.inr hvg)
    · simp only [if_neg hx]
      refine ((h.row x).kept hg6 ?_).kept hg7 (.inr (h.off x))
      by_cases hn : (V x).ownBlock = none
      · exact .inl hn
      · right
        intro e
        obtain ⟨k, hk⟩ := Option.ne_none_iff_exists'.1 hn
        exact h.apart x s k hx hk (by rw [← e]; exact hk)
  · by_cases hx : x = s
    · subst hx
      simp only [if_true] at hk
      rw [if_neg (fun e => hxy e.symm)]
      intro e
      rcases hat with h1 | h1
      · exact h.apart x y k hxy (h1.trans hk) e
      · rw [h1] at hk
        have := hlt y k e
        simp at hk; omega
    · simp only [if_neg hx] at hk
      by_cases hy : y = s
      · subst hy
        simp only [if_true]
        intro e
        rcases hat with h1 | h1
        · exact h.apart x y k hx hk (h1.trans e)
        · rw [h1] at e
          have := hlt x k hk
          simp at e; omega
      · simp only [if_neg hy]
        exact h.apart x y k hxy hk
  · by_cases hx : x = s
    · simp only [if_pos hx]; exact hvg
    · simp only [if_neg hx]; exact h.off x
  · by_cases hx : x = s
    · simp only [if_pos hx]; intro e; exact absurd e hne
    · simp only [if_neg hx]; exact h.nil x
/-- A row is struck. -/
theorem MapIn.del {w w' : World} {B g n : Nat} {d : DataW Value} {V : ByteArray → Value} {L : ByteArray → List Nat} (h : MapIn w B g n d V L) {s : ByteArray}
    (h' : w'.ownsMap Try.prog 9 heldW g n (d.del (keyW s))) (hg : w.grownBy w' (some g)) :
    MapIn w' B g n (d.del (keyW s)) (fun x => if x = s then nilS else V x) (fun x => if x = s then [] else L x) := by
  refine ⟨h', fun x => ?_, fun x => ?_, fun x y k hxy hk => ?_, fun x => ?_, fun x => ?_⟩
  · by_cases hx : x = s
    · subst hx; simp only [if_true]; exact Maps.atKey_del_same _
    · simp only [if_neg hx]; rw [Maps.atKey_del_other (keyW_ne hx)]; exact h.at' x
  · by_cases hx : x = s
    · simp only [if_pos hx]; exact (own_none _ _ _ _ : World.ownsRow _ _ _ _ _ _ _)
    · simp only [if_neg hx]; exact (h.row x).kept hg (.inr (h.off x))
  · by_cases hx : x = s
    · simp only [if_pos hx] at hk; simp [Value.ownBlock] at hk
    · simp only [if_neg hx] at hk
      by_cases hy : y = s
      · simp only [if_pos hy]; simp [Value.ownBlock]
      · simp only [if_neg hy]; exact h.apart x y k hxy hk
  · by_cases hx : x = s
    · simp only [if_pos hx]; simp [Value.ownBlock]
    · simp only [if_neg hx]; exact h.off x
  · by_cases hx : x = s
    · simp only [if_pos hx]; intro _; trivial
    · simp only [if_neg hx]; exact h.nil x
/-- Other blocks turn. -/
theorem MapIn.kept {w w' : World} {B g n : Nat} {d : DataW Value} {V : ByteArray → Value} {L : ByteArray → List Nat} (h : MapIn w B g n d V L) {row : Option Nat} (hg : w.grownBy w' row) (hr : row ≠ some g) (hv : ∀ x k, (V x).ownBlock = some k → row ≠ some k) : MapIn w' B g n d V L :=
  ⟨World.ownsMap.kept h.map hg (fun e => hr e.symm), h.at', fun x => (h.row x).kept hg (by
    by_cases hn : (V x).ownBlock = none
    · exact .inl hn
    · right
      intro e
      obtain ⟨k, hk⟩ := Option.ne_none_iff_exists'.1 hn
      exact hv x k hk (by rw [← e]; exact hk)), h.apart, h.off, h.nil⟩
theorem look_below {W : World} {g n : Nat} {d : DataW Value} (h : W.ownsMap Try.prog 9 heldW g n d) {s : ByteArray} (hs : s.size ≤ maxLen) {v : Value} (hat : d.atKey (keyW s) (.held nilS) = .held v) :
    (Instr.lookup 104 (.map (some g)) (.string s) false).run Try.prog W = .ok v W := by
  obtain ⟨v', ps, hrun, hv⟩ := World.ownsMap.lookup h strKeyedW Try.underlying104 (nilS_run W) (R := heldW) (zd := .held nilS) (zp := []) rfl (Go.WideMaps.keyOf_string_mk Try.underlying9 hs)
  rw [show Lit.string s.data.toList = keyW s from rfl, hat] at hv
  simp only [heldW, Option.some.injEq, Prod.mk.injEq, DataW.held.injEq] at hv
  rw [hv.1] at hrun
  exact hrun
theorem put_below {W : World} {g n : Nat} {d : DataW Value} (h : W.ownsMap Try.prog 9 heldW g n d) (hn : n ≤ 1000000) {s : ByteArray} (hs : s.size ≤ maxLen) (v : Value) :
    ∃ W', (Instr.mapUpdate 104 (.map (some g)) (.string s) v).run Try.prog W = .ok () W' ∧ W'.ownsMap Try.prog 9 heldW g (n + 1) (d.put (keyW s) (.held v)) ∧ W.grownBy W' (some g) :=
  World.ownsMap.update h strKeyedW Try.underlying104 (by unfold maxLen; omega) (Go.WideMaps.keyOf_string_mk Try.underlying9 hs) rfl
end Go.Proofs.Ytmpakgabehplbaa
