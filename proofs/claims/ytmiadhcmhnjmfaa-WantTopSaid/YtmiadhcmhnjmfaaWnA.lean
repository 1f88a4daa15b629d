/- Declared trees: how a row of them is read; the document's wanted and Depth. -/
import Derived.Test.YtmiadhcmhnjmfaaVecC
import Derived.Laws.Slices
namespace Go.Proofs.Ytmiadhcmhnjmfaa
open Go.RowKit
set_option linter.unusedVariables false
set_option linter.unusedSimpArgs false

theorem tstr_eq (a c : ByteArray) : (a.toList == c.toList) = decide (a = c) := by
  by_cases h : a = c
  · subst h; simp
  · have : ¬ a.toList = c.toList := fun e => h (by rw [ByteArray.toList_eq, ByteArray.toList_eq] at e; exact ByteArray.ext (Array.ext' e))
    simp [h, this]
theorem tstr_is {a c : ByteArray} (h : a = c) : (a.toList == c.toList) = true := by rw [tstr_eq]; exact decide_eq_true h
theorem tstr_ne {a c : ByteArray} (h : a ≠ c) : (a.toList == c.toList) = false := by rw [tstr_eq]; exact decide_eq_false h
theorem tstr_empty (a : ByteArray) : a.toList.isEmpty = decide (a = ⟨#[]⟩) := by
  rw [ByteArray.toList_eq]
  by_cases h : a = ⟨#[]⟩
  · subst h; simp
  · have : a.data.toList ≠ [] := fun e => h (ByteArray.ext (Array.ext' e))
    cases hd : a.data.toList with
    | nil => exact absurd hd this
    | cons x r => simp [h]
/-- A declared node. -/
structure W5 where
  name : ByteArray
  parent : ByteArray
  lim : V3
def W5.val (x : W5) : Value := .agg #[.string x.name, .string x.parent, .int .i64 x.lim.c, .int .i64 x.lim.m, .int .i64 x.lim.p]
def W5.cells (x : W5) : List Value := [.string x.name, .string x.parent, .int .i64 x.lim.c, .int .i64 x.lim.m, .int .i64 x.lim.p]
/-- Its five cells lie at o in block g. -/
def W5At (w : World) (g o : Nat) (u : W5) : Prop := w.cell? ⟨g, o, none⟩ = some (.string u.name) ∧ w.cell? ⟨g, o + 1, none⟩ = some (.string u.parent) ∧ w.cell? ⟨g, o + 2, none⟩ = some (.int .i64 u.lim.c) ∧ w.cell? ⟨g, o + 3, none⟩ = some (.int .i64 u.lim.m) ∧ w.cell? ⟨g, o + 4, none⟩ = some (.int .i64 u.lim.p)
theorem W5At.below {w w' : World} {g o : Nat} {u : W5} (h : W5At w g o u) (hb : Below w.heap.size w w') : W5At w' g o u :=
  ⟨hold hb h.1, hold hb h.2.1, hold hb h.2.2.1, hold hb h.2.2.2.1, hold hb h.2.2.2.2⟩
/-- Row l as the slice value lv reads. -/
def WRow (w : World) (l : List W5) (lv : Value) : Prop := ∃ ao cap, lv = .slice ao l.length cap ∧ l.length ≤ cap ∧ cap ≤ maxLen ∧ ∀ (i : Nat) (u : W5), l[i]? = some u → ∃ g o, ao = some ⟨g, o, none⟩ ∧ W5At w g (o + i * 5) u
theorem WRow.below {w w' : World} {l : List W5} {lv : Value} (h : WRow w l lv) (hb : Below w.heap.size w w') : WRow w' l lv := by
  obtain ⟨ao, cap, e, h1, h2, hc⟩ := h
  refine ⟨ao, cap, e, h1, h2, fun i u hu => ?_⟩
  obtain ⟨g, o, e2, h3⟩ := hc i u hu
  exact ⟨g, o, e2, h3.below hb⟩
theorem WRow.nil (w : World) : WRow w [] (.slice none 0 0) := ⟨none, 0, rfl, Nat.le_refl _, Nat.zero_le _, fun i u hu => by simp at hu⟩
theorem WRow.shape {w : World} {l : List W5} {lv : Value} (h : WRow w l lv) : ∃ ao cap, lv = .slice ao l.length cap := by obtain ⟨ao, cap, rfl, -⟩ := h; exact ⟨ao, cap, rfl⟩
/-- The first k of a row. -/
theorem WRow.take {w : World} {l : List W5} {ao : Option Addr} {n cap : Nat} (h : WRow w l (.slice ao n cap)) (k : Nat) (hk : k ≤ l.length) : WRow w (l.take k) (.slice ao k cap) := by
  obtain ⟨ao', cap', e, h1, h2, hc⟩ := h
  simp only [Value.slice.injEq] at e
  obtain ⟨rfl, rfl, rfl⟩ := e
  have hl : (l.take k).length = k := by rw [List.length_take]; omega
  refine ⟨ao, cap, by rw [hl], by omega, h2, fun i u hu => hc i u ?_⟩
  rw [List.getElem?_take] at hu
  split at hu
  · exact hu
  · cases hu
/-- The place of a name; -1: none. -/
def wIdx (l : List W5) (s : ByteArray) : Option Nat := l.findIdx? fun x => decide (x.name = s)
def wantedL (l : List W5) (s : ByteArray) : Int := match wIdx l s with | some k => (k : Int) | none => -1
theorem wIdx_some {l : List W5} {s : ByteArray} {k : Nat} {x : W5} (hx : l[k]? = some x) (hn : x.name = s) (hb : ∀ j y, j < k → l[j]? = some y → y.name ≠ s) : wIdx l s = some k := by
  unfold wIdx
  rw [List.findIdx?_eq_some_iff_getElem]
  obtain ⟨hk, rfl⟩ := List.getElem?_eq_some_iff.1 hx
  refine ⟨hk, by simpa using hn, fun j hj => ?_⟩
  have := hb j _ hj (List.getElem?_eq_getElem (by omega))
  simpa using this
theorem wIdx_none {l : List W5} {s : ByteArray} (hb : ∀ j y, j < l.length → l[j]? = some y → y.name ≠ s) : wIdx l s = none := by
  unfold wIdx
  rw [List.findIdx?_eq_none_iff]
  intro x hx
  obtain ⟨j, hj, rfl⟩ := List.mem_iff_getElem.1 hx
  have := hb j _ hj (List.getElem?_eq_getElem hj)
  simpa using this
theorem wIdx_spec {l : List W5} {s : ByteArray} {k : Nat} (h : wIdx l s = some k) : ∃ x, l[k]? = some x ∧ x.name = s ∧ ∀ j y, j < k → l[j]? = some y → y.name ≠ s := by
  unfold wIdx at h
  rw [List.findIdx?_eq_some_iff_getElem] at h
  obtain ⟨hk, h1, h2⟩ := h
  refine ⟨l[k], List.getElem?_eq_getElem hk, by simpa using h1, fun j y hj hy => ?_⟩
  obtain ⟨hj2, rfl⟩ := List.getElem?_eq_some_iff.1 hy
  have := h2 j hj
  simpa using this
theorem wIdx_no {l : List W5} {s : ByteArray} (h : wIdx l s = none) : ∀ x ∈ l, x.name ≠ s := by
  unfold wIdx at h
  rw [List.findIdx?_eq_none_iff] at h
  intro x hx
  have := h x hx
  simpa using this
theorem wIdx_lt {l : List W5} {s : ByteArray} {k : Nat} (h : wIdx l s = some k) : k < l.length := by
  obtain ⟨x, hx, -⟩ := wIdx_spec h
  exact (List.getElem?_eq_some_iff.1 hx).1
theorem wIdx_some_iff {l : List W5} {s : ByteArray} : (∃ k, wIdx l s = some k) ↔ ∃ x ∈ l, x.name = s := by
  constructor
  · rintro ⟨k, h⟩
    obtain ⟨x, hx, hn, -⟩ := wIdx_spec h
    exact ⟨x, List.mem_of_getElem? hx, hn⟩
  · rintro ⟨x, hx, hn⟩
    cases h : wIdx l s with
    | some k => exact ⟨k, rfl⟩
    | none => exact absurd hn (wIdx_no h x hx)
section
variable (w : World)
set_option maxHeartbeats 1000000 in
set_option maxRecDepth 20000 in
theorem rwanted (l : List W5) (lv : Value) (h : WRow w l lv) (s : ByteArray) :
    Calls Try.prog 24 #[lv, .string s] w fun e w' => e = .returned (.int .i64 (wantedL l s)) ∧ w = w' := by
  obtain ⟨ao, cap, rfl, h1, h2, hat⟩ := h
  have HAT := Lib.hid hat
  unfold maxLen at h2
  have hl : l.length ≤ 9223372036854775807 := by omega
  clear hat h1 h2
  go_enter Try.func24, Try.ntmps24
  go_wp2_with fail
  go_loopg [5] l.length (fun m iv wr => ∃ k : Nat, iv = .int .i64 k ∧ l.length - k ≤ m ∧ k ≤ l.length ∧ w = wr ∧ Hid (∀ j y, j < k → l[j]? = some y → y.name ≠ s))
  case atStart => exact ⟨0, rfl, Nat.le_refl _, Nat.zero_le _, rfl, Lib.hid (fun j y hj => by omega)⟩
  case round =>
    obtain ⟨k, rfl, hm, hk, rfl, NB⟩ := hrel
    have HM := Lib.hid hm
    clear hm
    by_cases hlt : k < l.length
    · obtain ⟨u, hu⟩ : ∃ u, l[k]? = some u := ⟨_, List.getElem?_eq_getElem hlt⟩
      have HU := Lib.hid hu
      obtain ⟨g, o, rfl, c0, -⟩ := HAT.out k u hu
      clear hu
      by_cases hn : u.name = s
      · have e := tstr_is hn
        have R := Lib.hid (show wantedL l s = (k : Int) by unfold wantedL; rw [wIdx_some HU.out hn NB.out])
        clear hn
        go_wp2_with fail
        go_ret
        exact ⟨by rw [R.out]; rfl, rfl⟩
      · have e := tstr_ne hn
        have NX := Lib.hid (show ∀ j y, j < k + 1 → l[j]? = some y → y.name ≠ s from fun j y hj hy => by
          by_cases ej : j = k
          · subst ej
            obtain rfl : u = y := Option.some.inj (HU.out.symm.trans hy)
            exact hn
          · exact NB.out j y (by omega) hy)
        clear hn
        go_wp2_with fail
        go_roundg (l.length - (k + 1))
        case rel => exact ⟨k + 1, by go_num, Nat.le_refl _, hlt, rfl, NX⟩
        case measure => have := HM.out; omega
    · obtain rfl : k = l.length := by omega
      have R := Lib.hid (show wantedL l s = -1 by unfold wantedL; rw [wIdx_none NB.out])
      go_wp2_with fail
      go_ret
      exact ⟨by rw [R.out]; rfl, rfl⟩
end
/-- How deep a name stands: so many steps at most. 0: there is none; -1: not below the root. -/
def depthU (l : List W5) : Nat → ByteArray → Int → Int
  | 0, s, n => match wIdx l s with | some _ => -1 | none => 0
  | f + 1, s, n => match wIdx l s with
    | none => 0
    | some k => match l[k]? with
      | none => 0
      | some x => if x.parent = ⟨#[]⟩ then n + 1 else depthU l f x.parent (n + 1)
def depthL (l : List W5) (s : ByteArray) : Int := depthU l l.length s 0
theorem depthU_none {l : List W5} {s : ByteArray} (h : wIdx l s = none) : ∀ f n, depthU l f s n = 0
  | 0, _ => by unfold depthU; rw [h]
  | f + 1, _ => by unfold depthU; rw [h]
theorem depthU_end {l : List W5} {s : ByteArray} {k : Nat} {x : W5} (h : wIdx l s = some k) (hx : l[k]? = some x) (hp : x.parent = ⟨#[]⟩) (f : Nat) (n : Int) : depthU l (f + 1) s n = n + 1 := by
  rw [depthU, h]; simp only [hx]; rw [if_pos hp]
theorem depthU_up {l : List W5} {s : ByteArray} {k : Nat} {x : W5} (h : wIdx l s = some k) (hx : l[k]? = some x) (hp : x.parent ≠ ⟨#[]⟩) (f : Nat) (n : Int) : depthU l (f + 1) s n = depthU l f x.parent (n + 1) := by
  rw [depthU, h]; simp only [hx]; rw [if_neg hp]
section
variable (w : World)
set_option maxHeartbeats 1000000 in
set_option maxRecDepth 20000 in
theorem rdepth (l : List W5) (lv : Value) (h : WRow w l lv) (hl : l.length ≤ 1000) (s : ByteArray) :
    Calls Try.prog 14 #[lv, .string s] w fun e w' => e = .returned (.int .i64 (depthL l s)) ∧ w = w' := by
  have RW := Lib.hid (fun s => rwanted w l lv h s)
  obtain ⟨ao, cap, rfl, h1, h2, hat⟩ := h
  have HAT := Lib.hid hat
  clear hat h1 h2
  go_enter Try.func14, Try.ntmps14
  go_wp2_with fail
  with_reducible refine (RW.out s).mono ?_
  rintro e w1 ⟨rfl, rfl⟩
  go_wp2_with fail
  go_loopg [5, 6] l.length (fun m nv kv wr => ∃ (n : Nat) (t : ByteArray), nv = .int .i64 n ∧ kv = .int .i64 (wantedL l t) ∧ n ≤ l.length ∧ l.length - n ≤ m ∧ w = wr ∧ Hid (depthL l s = depthU l (l.length - n) t n))
  case atStart => exact ⟨0, s, rfl, rfl, Nat.zero_le _, Nat.le_refl _, rfl, Lib.hid rfl⟩
  case round =>
    obtain ⟨n, t, rfl, rfl, hn, hm, rfl, DU⟩ := hrel
    have HM := Lib.hid hm
    clear hm
    cases hk : wIdx l t with
    | none =>
      have E := Lib.hid (show wantedL l t = -1 by unfold wantedL; rw [hk])
      have R := Lib.hid (show depthL l s = 0 by rw [DU.out, depthU_none hk])
      rw [E.out]
      clear hk
      go_wp2_with fail
      go_ret
      exact ⟨by rw [R.out]; rfl, rfl⟩
    | some k =>
      have E := Lib.hid (show wantedL l t = (k : Int) by unfold wantedL; rw [hk])
      obtain ⟨x, hx, -⟩ := wIdx_spec hk
      have hkl : k < l.length := wIdx_lt hk
      have KK := Lib.hid hk
      obtain ⟨g, o, rfl, c0, c1, -⟩ := HAT.out k x hx
      have HX := Lib.hid hx
      rw [E.out]
      clear hk hx
      by_cases hz : n = l.length
      · have R := Lib.hid (show depthL l s = -1 by rw [DU.out, hz, Nat.sub_self]; unfold depthU; rw [KK.out])
        subst hz
        go_wp2_with fail
        go_ret
        exact ⟨by rw [R.out]; rfl, rfl⟩
      · have hnl : n < l.length := by omega
        obtain ⟨f, hf⟩ : ∃ f, l.length - n = f + 1 := ⟨l.length - n - 1, by omega⟩
        have hf2 : f = l.length - (n + 1) := by omega
        by_cases hp : x.parent = ⟨#[]⟩
        · have R := Lib.hid (show depthL l s = (n : Int) + 1 by rw [DU.out, hf, depthU_end KK.out HX.out hp])
          have e : x.parent.toList.isEmpty = true := by rw [tstr_empty]; exact decide_eq_true hp
          have e' : x.parent.toList = [] := by simpa using e
          clear hp hf hf2 hz
          go_wp2_with fail
          go_ret
          exact ⟨by rw [R.out]; rfl, rfl⟩
        · have R := Lib.hid (show depthL l s = depthU l (l.length - (n + 1)) x.parent ((n + 1 : Nat) : Int) by rw [DU.out, hf, depthU_up KK.out HX.out hp, hf2]; rfl)
          have e : x.parent.toList.isEmpty = false := by rw [tstr_empty]; exact decide_eq_false hp
          have e' : ¬ x.parent.toList = [] := by simpa using e
          clear hp hf hf2 hz
          go_wp2_with fail
          with_reducible refine (RW.out x.parent).mono ?_
          rintro e w1 ⟨rfl, rfl⟩
          go_wp2_with fail
          go_roundg (l.length - (n + 1))
          case rel => exact ⟨n + 1, x.parent, by go_num, rfl, hnl, Nat.le_refl _, rfl, R⟩
          case measure => have := HM.out; omega
end
end Go.Proofs.Ytmiadhcmhnjmfaa
