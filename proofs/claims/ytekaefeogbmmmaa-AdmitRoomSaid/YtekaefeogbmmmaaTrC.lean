/- Live trees: what is right (pure); a node in a block of its own. -/
import Derived.Test.YtekaefeogbmmmaaTrB
namespace Go.Proofs.Ytekaefeogbmmmaa
open Go.RowKit
set_option linter.unusedVariables false
set_option linter.unusedSimpArgs false
def nameB (s : ByteArray) : Bool := !decide (s = ⟨#[]⟩) && decide (s.size ≤ 24)
def ltS (a b : ByteArray) : Bool := Op.bytesLess a.toList b.toList
theorem may_bounds {v : V3} (h : mayV v = true) : (0 ≤ v.c ∧ v.c ≤ 1099511627776) ∧ (0 ≤ v.m ∧ v.m ≤ 1099511627776) ∧ (0 ≤ v.p ∧ v.p ≤ 1099511627776) := by
  unfold mayV leV at h
  simp only [Bool.and_eq_true, decide_eq_true_eq] at h
  simp only [z3, mostV] at h
  omega
section
variable (w : World)
theorem rmayname (s : ByteArray) (hs : s.size ≤ 9223372036854775807) : Calls Try.prog 19 #[.string s] w fun e w' => e = .returned (.bool (nameB s)) ∧ w = w' := by
  have E : Hid (nameB s = (!decide (s = ⟨#[]⟩) && decide (s.size ≤ 24))) := rfl
  by_cases h : s = ⟨#[]⟩
  · have e : s.toList.isEmpty = true := by rw [tstr_empty]; exact decide_eq_true h
    have e' : s.toList = [] := by simpa using e
    have R := Lib.hid (show nameB s = false by rw [E.out]; simp [h])
    clear h E
    go_enter Try.func19, Try.ntmps19
    go_wp2_with fail
    go_ret
    exact ⟨by rw [R.out]; rfl, rfl⟩
  · have e : s.toList.isEmpty = false := by rw [tstr_empty]; exact decide_eq_false h
    have e' : ¬ s.toList = [] := by simpa using e
    have R := Lib.hid (show nameB s = decide (s.size ≤ 24) by rw [E.out]; simp [h])
    clear h E
    by_cases h2 : s.size ≤ 24
    · have R2 := Lib.hid (show nameB s = true by rw [R.out]; simp [h2])
      go_enter Try.func19, Try.ntmps19
      go_wp2_with fail
      go_ret
      exact ⟨by rw [R2.out]; show Ending.returned (.bool (decide ((s.size : Int) ≤ 24))) = _; rw [decide_eq_true (by omega)], rfl⟩
    · have R2 := Lib.hid (show nameB s = false by rw [R.out]; simp [h2])
      have h3 : 24 < s.size := by omega
      go_enter Try.func19, Try.ntmps19
      go_wp2_with fail
      go_ret
      exact ⟨by rw [R2.out]; show Ending.returned (.bool (decide ((s.size : Int) ≤ 24))) = _; rw [decide_eq_false (by omega)], rfl⟩
end
/-- Does a node's name rise above the one ahead of it? -/
def riseB (l : List I12) (i : Nat) (x : I12) : Bool := match i with | 0 => true | j + 1 => match l[j]? with | some y => ltS y.name x.name | none => true
def parB (l : List I12) (x : I12) : Bool := decide (x.parent = ⟨#[]⟩) || (iIdx l x.parent).isSome
/-- What a node is by itself. -/
def i1OK (l : List I12) (i : Nat) (x : I12) : Bool := nameB x.name && (riseB l i x && (mayV x.lim && (mayV x.own && (parB l x && (decide (1 ≤ x.ver) && (decide (x.ver ≤ 9007199254740992) && (leV x.sub x.lim && mayV x.sub)))))))
/-- Its own, and what those have whose Parent it is, of the first k. -/
def subTo (l : List I12) (x : I12) (k : Nat) : V3 := ((l.take k).filter fun y => decide (y.parent = x.name)).foldl (fun v y => addV v y.sub) x.own
def eqV (a b : V3) : Bool := decide (a.c = b.c) && (decide (a.m = b.m) && decide (a.p = b.p))
theorem eqV_iff {a b : V3} : eqV a b = true ↔ a = b := by
  unfold eqV
  simp only [Bool.and_eq_true, decide_eq_true_eq]
  constructor
  · rintro ⟨h1, h2, h3⟩; cases a; cases b; simp_all
  · rintro rfl; exact ⟨rfl, rfl, rfl⟩
def i2OK (l : List I12) (x : I12) : Bool := eqV (subTo l x l.length) x.sub && decide ((upI l x.name).length ≤ l.length)
def allI (l : List I12) (f : Nat → I12 → Bool) (k : Nat) : Prop := ∀ j y, j < k → l[j]? = some y → f j y = true
def rightP (l : List I12) : Prop := l.length ≤ 120 ∧ allI l (i1OK l) l.length ∧ allI l (fun _ x => i2OK l x) l.length
theorem allI.next {l : List I12} {f : Nat → I12 → Bool} {k : Nat} (h : allI l f k) {x : I12} (hx : l[k]? = some x) (hf : f k x = true) : allI l f (k + 1) := fun j y hj hy => by
  by_cases e : j = k
  · subst e
    obtain rfl : x = y := Option.some.inj (hx.symm.trans hy)
    exact hf
  · exact h j y (by omega) hy
theorem subTo_step {l : List I12} {x y : I12} {k : Nat} (hy : l[k]? = some y) : subTo l x (k + 1) = if y.parent = x.name then addV (subTo l x k) y.sub else subTo l x k := by
  unfold subTo
  rw [List.take_add_one, hy]
  simp only [Option.toList_some, List.filter_append, List.foldl_append]
  by_cases h : y.parent = x.name
  · rw [if_pos h]; simp [h]
  · rw [if_neg h]; simp [h]
theorem subTo_up {l : List I12} {x : I12} (ho : mayV x.own = true) (hm : ∀ y ∈ l, mayV y.sub = true) : ∀ k, k ≤ l.length → (0 ≤ (subTo l x k).c ∧ (subTo l x k).c ≤ ((k : Int) + 1) * 1099511627776) ∧ (0 ≤ (subTo l x k).m ∧ (subTo l x k).m ≤ ((k : Int) + 1) * 1099511627776) ∧ (0 ≤ (subTo l x k).p ∧ (subTo l x k).p ≤ ((k : Int) + 1) * 1099511627776)
  | 0, _ => by
    have := may_bounds ho
    simp only [subTo, List.take_zero, List.filter_nil, List.foldl_nil]
    omega
  | k + 1, hk => by
    have ih := subTo_up ho hm k (by omega)
    have hx : l[k]? = some (l[k]'(by omega)) := List.getElem?_eq_getElem (by omega)
    have hb := may_bounds (hm (l[k]'(by omega)) (List.getElem_mem _))
    rw [subTo_step hx]
    split
    · unfold addV; simp only; omega
    · omega
/-- A node in a block of its own. -/
def IBlk (w : World) (b : Nat) (u : I12) : Prop := w.heap[b]? = some (.cells #[.string u.name, .string u.parent, .int .i64 u.lim.c, .int .i64 u.lim.m, .int .i64 u.lim.p, .int .i64 u.own.c, .int .i64 u.own.m, .int .i64 u.own.p, .int .i64 u.sub.c, .int .i64 u.sub.m, .int .i64 u.sub.p, .int .i64 u.ver] 40 (0, 0))
theorem IBlk.lt {w : World} {b : Nat} {u : I12} (h : IBlk w b u) : b < w.heap.size := (Array.getElem?_eq_some_iff.1 h).1
theorem IBlk.below {w w' : World} {b : Nat} {u : I12} (h : IBlk w b u) (hb : Below w.heap.size w w') : IBlk w' b u := (hb.block b h.lt).trans h
theorem IBlk.new (w : World) (u : I12) : IBlk (w.alloc (.cells #[.string u.name, .string u.parent, .int .i64 u.lim.c, .int .i64 u.lim.m, .int .i64 u.lim.p, .int .i64 u.own.c, .int .i64 u.own.m, .int .i64 u.own.p, .int .i64 u.sub.c, .int .i64 u.sub.m, .int .i64 u.sub.p, .int .i64 u.ver] 40)) w.heap.size u := heap_alloc_new w _
theorem IBlk.cells {w : World} {b : Nat} {u : I12} (h : IBlk w b u) : I12At w b 0 u :=
  ⟨(cell_of_row _ _ 0 _ _ _ h).trans rfl, (cell_of_row _ _ 1 _ _ _ h).trans rfl, (cell_of_row _ _ 2 _ _ _ h).trans rfl, (cell_of_row _ _ 3 _ _ _ h).trans rfl, (cell_of_row _ _ 4 _ _ _ h).trans rfl, (cell_of_row _ _ 5 _ _ _ h).trans rfl, (cell_of_row _ _ 6 _ _ _ h).trans rfl, (cell_of_row _ _ 7 _ _ _ h).trans rfl, (cell_of_row _ _ 8 _ _ _ h).trans rfl, (cell_of_row _ _ 9 _ _ _ h).trans rfl, (cell_of_row _ _ 10 _ _ _ h).trans rfl, (cell_of_row _ _ 11 _ _ _ h).trans rfl⟩
end Go.Proofs.Ytekaefeogbmmmaa
