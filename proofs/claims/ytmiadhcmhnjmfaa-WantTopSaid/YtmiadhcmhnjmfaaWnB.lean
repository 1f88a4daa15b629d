/- Declared trees: the document's Check. -/
import Derived.Test.YtmiadhcmhnjmfaaWnA
namespace Go.Proofs.Ytmiadhcmhnjmfaa
open Go.RowKit
set_option linter.unusedVariables false
set_option linter.unusedSimpArgs false
/-- The first error of a row, from place i on. -/
def scanE (f : Nat → W5 → Int) : Nat → List W5 → Int
  | _, [] => 0
  | i, x :: r => if f i x ≠ 0 then f i x else scanE f (i + 1) r
theorem scanE_at (f : Nat → W5 → Int) : ∀ (l : List W5) (i k : Nat) (x : W5), l[k]? = some x → f (i + k) x ≠ 0 → (∀ j y, j < k → l[j]? = some y → f (i + j) y = 0) → scanE f i l = f (i + k) x
  | [], i, k, x, hx, _, _ => by simp at hx
  | a :: l, i, 0, x, hx, he, hb => by
    simp at hx; subst hx
    simp only [Nat.add_zero] at he ⊢
    rw [scanE, if_pos he]
  | a :: l, i, k + 1, x, hx, he, hb => by
    have h0 := hb 0 a (by omega) rfl
    simp only [Nat.add_zero] at h0
    rw [scanE, if_neg (by simp [h0])]
    have h := scanE_at f l (i + 1) k x (by simpa using hx) (by rw [show i + 1 + k = i + (k + 1) by omega]; exact he) (fun j y hj hy => by
      have := hb (j + 1) y (by omega) (by simpa using hy)
      rw [show i + 1 + j = i + (j + 1) by omega]; exact this)
    rw [h, show i + 1 + k = i + (k + 1) by omega]
theorem scanE_none (f : Nat → W5 → Int) : ∀ (l : List W5) (i : Nat), (∀ j y, l[j]? = some y → f (i + j) y = 0) → scanE f i l = 0
  | [], _, _ => rfl
  | a :: l, i, hb => by
    have h0 := hb 0 a rfl
    simp only [Nat.add_zero] at h0
    rw [scanE, if_neg (by simp [h0])]
    exact scanE_none f l (i + 1) (fun j y hy => by
      have := hb (j + 1) y (by simpa using hy)
      rw [show i + 1 + j = i + (j + 1) by omega]; exact this)
def nameB (s : ByteArray) : Bool := !decide (s = ⟨#[]⟩) && decide (s.size ≤ 24)
def c1W (l : List W5) (i : Nat) (x : W5) : Int := if nameB x.name = false then 1 else if mayV x.lim = false then 1 else if (wIdx (l.take i) x.name).isSome then 3 else 0
def c2W (l : List W5) (i : Nat) (x : W5) : Int := if x.parent ≠ ⟨#[]⟩ ∧ wIdx l x.parent = none then 2 else 0
def c3W (l : List W5) (i : Nat) (x : W5) : Int := if depthL l x.name < 1 then 10 else 0
def kidsV (l : List W5) (s : ByteArray) : V3 := (l.filter fun y => decide (y.parent = s)).foldl (fun v y => addV v y.lim) z3
def c4W (l : List W5) (i : Nat) (x : W5) : Int := if leV (kidsV l x.name) x.lim = false then 11 else 0
/-- The document's Check. -/
def checkL (l : List W5) : Int := if 120 < l.length then 4 else if scanE (c1W l) 0 l ≠ 0 then scanE (c1W l) 0 l else if scanE (c2W l) 0 l ≠ 0 then scanE (c2W l) 0 l else if scanE (c3W l) 0 l ≠ 0 then scanE (c3W l) 0 l else scanE (c4W l) 0 l
/-- Nothing is wrong ahead of place k. -/
def OKto (f : Nat → W5 → Int) (l : List W5) (k : Nat) : Prop := ∀ j y, j < k → l[j]? = some y → f j y = 0
theorem OKto.zero (f : Nat → W5 → Int) (l : List W5) : OKto f l 0 := fun j y hj => by omega
theorem OKto.next {f : Nat → W5 → Int} {l : List W5} {k : Nat} (h : OKto f l k) {x : W5} (hx : l[k]? = some x) (he : f k x = 0) : OKto f l (k + 1) := fun j y hj hy => by
  by_cases e : j = k
  · subst e
    obtain rfl : x = y := Option.some.inj (hx.symm.trans hy)
    exact he
  · exact h j y (by omega) hy
theorem OKto.err {f : Nat → W5 → Int} {l : List W5} {k : Nat} (h : OKto f l k) {x : W5} (hx : l[k]? = some x) {e : Int} (he : f k x = e) (h0 : e ≠ 0) : scanE f 0 l = e := by
  have := scanE_at f l 0 k x hx (by rw [Nat.zero_add, he]; exact h0) (fun j y hj hy => by rw [Nat.zero_add]; exact h j y hj hy)
  rw [this, Nat.zero_add, he]
theorem OKto.all {f : Nat → W5 → Int} {l : List W5} (h : OKto f l l.length) : scanE f 0 l = 0 :=
  scanE_none f l 0 fun j y hy => by rw [Nat.zero_add]; exact h j y (List.getElem?_eq_some_iff.1 hy).1 hy
theorem OKto.mem {f : Nat → W5 → Int} {l : List W5} (h : OKto f l l.length) {j : Nat} {y : W5} (hy : l[j]? = some y) : f j y = 0 := h j y (List.getElem?_eq_some_iff.1 hy).1 hy
theorem c1W_zero {l : List W5} {i : Nat} {x : W5} (h : c1W l i x = 0) : nameB x.name = true ∧ mayV x.lim = true ∧ (wIdx (l.take i) x.name).isSome = false := by
  unfold c1W at h
  cases h1 : nameB x.name
  · rw [h1] at h; simp at h
  · cases h2 : mayV x.lim
    · rw [h1, h2] at h; simp at h
    · cases h3 : (wIdx (l.take i) x.name).isSome
      · exact ⟨rfl, rfl, rfl⟩
      · rw [h1, h2, h3] at h; simp at h
theorem may_bounds {v : V3} (h : mayV v = true) : (0 ≤ v.c ∧ v.c ≤ 1099511627776) ∧ (0 ≤ v.m ∧ v.m ≤ 1099511627776) ∧ (0 ≤ v.p ∧ v.p ≤ 1099511627776) := by
  unfold mayV leV at h
  simp only [Bool.and_eq_true, decide_eq_true_eq] at h
  simp only [z3, mostV] at h
  omega
/-- A partial sum of those that s is the parent of. -/
def kidsTo (l : List W5) (s : ByteArray) (k : Nat) : V3 := kidsV (l.take k) s
theorem kidsTo_all (l : List W5) (s : ByteArray) : kidsTo l s l.length = kidsV l s := by unfold kidsTo; rw [List.take_length]
theorem kidsTo_step {l : List W5} {s : ByteArray} {k : Nat} {x : W5} (hx : l[k]? = some x) : kidsTo l s (k + 1) = if x.parent = s then addV (kidsTo l s k) x.lim else kidsTo l s k := by
  unfold kidsTo kidsV
  rw [List.take_add_one, hx]
  simp only [Option.toList_some, List.filter_append, List.foldl_append]
  by_cases h : x.parent = s
  · rw [if_pos h]; simp [h]
  · rw [if_neg h]; simp [h]
theorem kidsTo_up {l : List W5} (s : ByteArray) (hm : ∀ y ∈ l, mayV y.lim = true) : ∀ k, k ≤ l.length → (0 ≤ (kidsTo l s k).c ∧ (kidsTo l s k).c ≤ (k : Int) * 1099511627776) ∧ (0 ≤ (kidsTo l s k).m ∧ (kidsTo l s k).m ≤ (k : Int) * 1099511627776) ∧ (0 ≤ (kidsTo l s k).p ∧ (kidsTo l s k).p ≤ (k : Int) * 1099511627776)
  | 0, _ => by simp [kidsTo, kidsV, z3]
  | k + 1, hk => by
    have ih := kidsTo_up s hm k (by omega)
    have hx : l[k]? = some (l[k]'(by omega)) := List.getElem?_eq_getElem (by omega)
    have hmx := hm (l[k]'(by omega)) (List.getElem_mem _)
    have hb := may_bounds hmx
    rw [kidsTo_step hx]
    split
    · unfold addV; simp only; omega
    · omega
section
variable (w : World)
theorem rmayname (s : ByteArray) (hs : s.size ≤ 9223372036854775807) : Calls Try.prog 22 #[.string s] w fun e w' => e = .returned (.bool (nameB s)) ∧ w = w' := by
  have E : Hid (nameB s = (!decide (s = ⟨#[]⟩) && decide (s.size ≤ 24))) := rfl
  by_cases h : s = ⟨#[]⟩
  · have e : s.toList.isEmpty = true := by rw [tstr_empty]; exact decide_eq_true h
    have e' : s.toList = [] := by simpa using e
    have R := Lib.hid (show nameB s = false by rw [E.out]; simp [h])
    clear h E
    go_enter Try.func22, Try.ntmps22
    go_wp2_with fail
    go_ret
    exact ⟨by rw [R.out]; rfl, rfl⟩
  · have e : s.toList.isEmpty = false := by rw [tstr_empty]; exact decide_eq_false h
    have e' : ¬ s.toList = [] := by simpa using e
    have R := Lib.hid (show nameB s = decide (s.size ≤ 24) by rw [E.out]; simp [h])
    clear h E
    by_cases h2 : s.size ≤ 24
    · have R2 := Lib.hid (show nameB s = true by rw [R.out]; simp [h2])
      go_enter Try.func22, Try.ntmps22
      go_wp2_with fail
      go_ret
      exact ⟨by rw [R2.out]; show Ending.returned (.bool (decide ((s.size : Int) ≤ 24))) = _; rw [decide_eq_true (by omega)], rfl⟩
    · have R2 := Lib.hid (show nameB s = false by rw [R.out]; simp [h2])
      have h3 : 24 < s.size := by omega
      go_enter Try.func22, Try.ntmps22
      go_wp2_with fail
      go_ret
      exact ⟨by rw [R2.out]; show Ending.returned (.bool (decide ((s.size : Int) ≤ 24))) = _; rw [decide_eq_false (by omega)], rfl⟩
end
end Go.Proofs.Ytmiadhcmhnjmfaa
