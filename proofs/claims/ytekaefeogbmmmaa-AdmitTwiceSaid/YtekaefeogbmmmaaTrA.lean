/- Live trees: how a row of them is read; the document's Find. -/
import Derived.Test.YtekaefeogbmmmaaVecC
import Derived.Test.YtekaefeogbmmmaaOwnX
import Derived.Laws.Slices
import Derived.Laws.OwnMore
namespace Go.Proofs.Ytekaefeogbmmmaa
open Go.RowKit
set_option linter.unusedVariables false
set_option linter.unusedSimpArgs false
theorem tstr_eq (a c : ByteArray) : (a.toList == c.toList) = decide (a = c) := by
  by_cases h : a = c
  · subst h; simp
  · have : ¬ a.toList = c.toList := fun e => h (by rw [ByteArray.toList_eq, ByteArray.toList_eq] at e; exact ByteArray.ext (Array.ext' e))
    simp [h, this]
theorem tstr_is {a c : ByteArray} (h : a = c) : (a.toList == c.toList) = true := by rw [tstr_eq]; exact decide_eq_true h
theorem tstr_ne {a c : ByteArray} (h : a ≠ c) : (a.toList == c.toList) = false := by rw [tstr_eq]; exact decide_eq_false h
theorem tstr_empty (a : ByteArray) : a.toList.isEmpty = decide (a = ⟨#[]⟩) := by
  rw [ByteArray.toList_eq]
  by_cases h : a = ⟨#[]⟩
  · subst h; simp
  · have : a.data.toList ≠ [] := fun e => h (ByteArray.ext (Array.ext' e))
    cases hd : a.data.toList with
    | nil => exact absurd hd this
    | cons x r => simp [h]
theorem wadd (g o j : Nat) : (⟨g, o, none⟩ : Addr).add j = ⟨g, o + j, none⟩ := by unfold Addr.add; split <;> simp_all
theorem info_partsT {t : TypeId} {z : Value} {s b : Nat} (h : (Try.prog.info? t).map (fun i => (i.zero, i.size, i.bytes)) = some (some z, s, b)) : ∃ i, Try.prog.info? t = some i ∧ i.zero = some z ∧ i.size = s ∧ i.bytes = b := by
  obtain ⟨i, hi, h⟩ := Option.map_eq_some_iff.1 h
  simp only [Prod.mk.injEq] at h
  exact ⟨i, hi, h.1, h.2.1, h.2.2⟩
theorem own_lower {w : World} {B B' e z n : Nat} {v : Value} {xs : List Value} (h : w.ownsRow B e z v n xs) (hB : B' ≤ B) : w.ownsRow B' e z v n xs := by
  refine ⟨h.1, ?_⟩
  rcases h.2 with hn | ⟨g, cap, cur, rfl, hbg, hg, r⟩
  · exact .inl hn
  · exact .inr ⟨g, cap, cur, rfl, by omega, hg, r⟩
/-- A live node. -/
structure I12 where
  name : ByteArray
  parent : ByteArray
  lim : V3
  own : V3
  sub : V3
  ver : Int
def I12.cells (x : I12) : List Value := [.string x.name, .string x.parent, .int .i64 x.lim.c, .int .i64 x.lim.m, .int .i64 x.lim.p, .int .i64 x.own.c, .int .i64 x.own.m, .int .i64 x.own.p, .int .i64 x.sub.c, .int .i64 x.sub.m, .int .i64 x.sub.p, .int .i64 x.ver]
def I12.val (x : I12) : Value := .agg x.cells.toArray
/-- Its twelve cells lie at o in block g. -/
structure I12At (w : World) (g o : Nat) (u : I12) : Prop where
  c0 : w.cell? ⟨g, o, none⟩ = some (.string u.name)
  c1 : w.cell? ⟨g, o + 1, none⟩ = some (.string u.parent)
  c2 : w.cell? ⟨g, o + 2, none⟩ = some (.int .i64 u.lim.c)
  c3 : w.cell? ⟨g, o + 3, none⟩ = some (.int .i64 u.lim.m)
  c4 : w.cell? ⟨g, o + 4, none⟩ = some (.int .i64 u.lim.p)
  c5 : w.cell? ⟨g, o + 5, none⟩ = some (.int .i64 u.own.c)
  c6 : w.cell? ⟨g, o + 6, none⟩ = some (.int .i64 u.own.m)
  c7 : w.cell? ⟨g, o + 7, none⟩ = some (.int .i64 u.own.p)
  c8 : w.cell? ⟨g, o + 8, none⟩ = some (.int .i64 u.sub.c)
  c9 : w.cell? ⟨g, o + 9, none⟩ = some (.int .i64 u.sub.m)
  c10 : w.cell? ⟨g, o + 10, none⟩ = some (.int .i64 u.sub.p)
  c11 : w.cell? ⟨g, o + 11, none⟩ = some (.int .i64 u.ver)
theorem I12At.below {w w' : World} {g o : Nat} {u : I12} (h : I12At w g o u) (hb : Below w.heap.size w w') : I12At w' g o u :=
  ⟨hold hb h.c0, hold hb h.c1, hold hb h.c2, hold hb h.c3, hold hb h.c4, hold hb h.c5, hold hb h.c6, hold hb h.c7, hold hb h.c8, hold hb h.c9, hold hb h.c10, hold hb h.c11⟩
/-- Row l as the slice value lv reads. -/
def IRow (w : World) (l : List I12) (lv : Value) : Prop := ∃ ao cap, lv = .slice ao l.length cap ∧ l.length ≤ cap ∧ cap ≤ maxLen ∧ ∀ (i : Nat) (u : I12), l[i]? = some u → ∃ g o, ao = some ⟨g, o, none⟩ ∧ I12At w g (o + i * 12) u
theorem IRow.below {w w' : World} {l : List I12} {lv : Value} (h : IRow w l lv) (hb : Below w.heap.size w w') : IRow w' l lv := by
  obtain ⟨ao, cap, e, h1, h2, hc⟩ := h
  refine ⟨ao, cap, e, h1, h2, fun i u hu => ?_⟩
  obtain ⟨g, o, e2, h3⟩ := hc i u hu
  exact ⟨g, o, e2, h3.below hb⟩
theorem IRow.nil (w : World) : IRow w [] (.slice none 0 0) := ⟨none, 0, rfl, Nat.le_refl _, Nat.zero_le _, fun i u hu => by simp at hu⟩
theorem IRow.shape {w : World} {l : List I12} {lv : Value} (h : IRow w l lv) : ∃ ao cap, lv = .slice ao l.length cap := by obtain ⟨ao, cap, rfl, -⟩ := h; exact ⟨ao, cap, rfl⟩
/-- The place of a name. -/
def iIdx (l : List I12) (s : ByteArray) : Option Nat := l.findIdx? fun x => decide (x.name = s)
def findI (l : List I12) (s : ByteArray) : Int := match iIdx l s with | some k => (k : Int) | none => -1
theorem iIdx_some {l : List I12} {s : ByteArray} {k : Nat} {x : I12} (hx : l[k]? = some x) (hn : x.name = s) (hb : ∀ j y, j < k → l[j]? = some y → y.name ≠ s) : iIdx l s = some k := by
  unfold iIdx
  rw [List.findIdx?_eq_some_iff_getElem]
  obtain ⟨hk, rfl⟩ := List.getElem?_eq_some_iff.1 hx
  refine ⟨hk, by simpa using hn, fun j hj => ?_⟩
  have := hb j _ hj (List.getElem?_eq_getElem (by omega))
  simpa using this
theorem iIdx_none {l : List I12} {s : ByteArray} (hb : ∀ j y, j < l.length → l[j]? = some y → y.name ≠ s) : iIdx l s = none := by
  unfold iIdx
  rw [List.findIdx?_eq_none_iff]
  intro x hx
  obtain ⟨j, hj, rfl⟩ := List.mem_iff_getElem.1 hx
  have := hb j _ hj (List.getElem?_eq_getElem hj)
  simpa using this
theorem iIdx_spec {l : List I12} {s : ByteArray} {k : Nat} (h : iIdx l s = some k) : ∃ x, l[k]? = some x ∧ x.name = s ∧ ∀ j y, j < k → l[j]? = some y → y.name ≠ s := by
  unfold iIdx at h
  rw [List.findIdx?_eq_some_iff_getElem] at h
  obtain ⟨hk, h1, h2⟩ := h
  refine ⟨l[k], List.getElem?_eq_getElem hk, by simpa using h1, fun j y hj hy => ?_⟩
  obtain ⟨hj2, rfl⟩ := List.getElem?_eq_some_iff.1 hy
  have := h2 j hj
  simpa using this
theorem iIdx_no {l : List I12} {s : ByteArray} (h : iIdx l s = none) : ∀ x ∈ l, x.name ≠ s := by
  unfold iIdx at h
  rw [List.findIdx?_eq_none_iff] at h
  intro x hx
  have := h x hx
  simpa using this
theorem iIdx_lt {l : List I12} {s : ByteArray} {k : Nat} (h : iIdx l s = some k) : k < l.length := by
  obtain ⟨x, hx, -⟩ := iIdx_spec h
  exact (List.getElem?_eq_some_iff.1 hx).1
section
variable (w : World)
set_option maxHeartbeats 1000000 in
set_option maxRecDepth 20000 in
theorem rfind (l : List I12) (lv : Value) (h : IRow w l lv) (s : ByteArray) :
    Calls Try.prog 17 #[lv, .string s] w fun e w' => e = .returned (.int .i64 (findI l s)) ∧ w = w' := by
  obtain ⟨ao, cap, rfl, h1, h2, hat⟩ := h
  have HAT := Lib.hid hat
  unfold maxLen at h2
  have hl : l.length ≤ 9223372036854775807 := by omega
  clear hat h1 h2
  go_enter Try.func17, Try.ntmps17
  go_wp2_with fail
  go_loopg [5] l.length (fun m iv wr => ∃ k : Nat, iv = .int .i64 k ∧ l.length - k ≤ m ∧ k ≤ l.length ∧ w = wr ∧ Hid (∀ j y, j < k → l[j]? = some y → y.name ≠ s))
  case atStart => exact ⟨0, rfl, Nat.le_refl _, Nat.zero_le _, rfl, Lib.hid (fun j y hj => by omega)⟩
  case round =>
    obtain ⟨k, rfl, hm, hk, rfl, NB⟩ := hrel
    have HM := Lib.hid hm
    clear hm
    by_cases hlt : k < l.length
    · obtain ⟨u, hu⟩ : ∃ u, l[k]? = some u := ⟨_, List.getElem?_eq_getElem hlt⟩
      have HU := Lib.hid hu
      obtain ⟨g, o, rfl, hcu⟩ := HAT.out k u hu
      have c0 := hcu.c0
      clear hu hcu
      by_cases hn : u.name = s
      · have e := tstr_is hn
        have R := Lib.hid (show findI l s = (k : Int) by unfold findI; rw [iIdx_some HU.out hn NB.out])
        clear hn
        go_wp2_with fail
        go_ret
        exact ⟨by rw [R.out]; rfl, rfl⟩
      · have e := tstr_ne hn
        have NX := Lib.hid (show ∀ j y, j < k + 1 → l[j]? = some y → y.name ≠ s from fun j y hj hy => by
          by_cases ej : j = k
          · subst ej
            obtain rfl : u = y := Option.some.inj (HU.out.symm.trans hy)
            exact hn
          · exact NB.out j y (by omega) hy)
        clear hn
        go_wp2_with fail
        go_roundg (l.length - (k + 1))
        case rel => exact ⟨k + 1, by go_num, Nat.le_refl _, hlt, rfl, NX⟩
        case measure => have := HM.out; omega
    · obtain rfl : k = l.length := by omega
      have R := Lib.hid (show findI l s = -1 by unfold findI; rw [iIdx_none NB.out])
      go_wp2_with fail
      go_ret
      exact ⟨by rw [R.out]; rfl, rfl⟩
/-- Texts, as cells. -/
def strC (ks : List ByteArray) : List Value := ks.map fun s => .string s
theorem strC_app (a b : List ByteArray) : strC (a ++ b) = strC a ++ strC b := by simp [strC]
theorem strC_len (a : List ByteArray) : (strC a).length = a.length := by simp [strC]
theorem strC_one (l : List ByteArray) : ∀ u ∈ strC l, u.oneCell' = true := by
  intro u hu
  unfold strC at hu
  obtain ⟨k, -, rfl⟩ := List.mem_map.1 hu
  rfl
theorem strC_at {xs : List ByteArray} {j : Nat} {s : ByteArray} (h : xs[j]? = some s) : (strC xs)[j]? = some (.string s) := by unfold strC; rw [List.getElem?_map, h]; rfl
/-- A row of texts that a call itself makes. -/
def StrsO (w : World) (B : Nat) (v : Value) (xs : List ByteArray) : Prop := w.ownsRow B 9 1 v xs.length (strC xs)
theorem StrsO.below {w w' : World} {B : Nat} {v : Value} {xs : List ByteArray} (h : StrsO w B v xs) (hb : Below w.heap.size w w') : StrsO w' B v xs := own_below h hb
theorem StrsO.shape {w : World} {B : Nat} {v : Value} {xs : List ByteArray} (h : StrsO w B v xs) : ∃ ao cap, v = .slice ao xs.length cap := by
  rcases h.2 with ⟨rfl, h0⟩ | ⟨g, cap, cur, rfl, _⟩
  · rw [h0]; exact ⟨_, _, rfl⟩
  · exact ⟨_, _, rfl⟩
theorem StrsO.cell {w : World} {B : Nat} {ao : Option Addr} {cap : Nat} {xs : List ByteArray} (h : StrsO w B (.slice ao xs.length cap) xs) {j : Nat} {s : ByteArray} (hj : xs[j]? = some s) : ∃ b, ao = some ⟨b, 0, none⟩ ∧ w.cell? ⟨b, j, none⟩ = some (.string s) := by
  have hjl := (List.getElem?_eq_some_iff.1 hj).1
  have h' := h
  unfold StrsO at h'
  rcases h.2 with ⟨e, h0⟩ | ⟨b, cap', cur, e, _⟩
  · omega
  · simp only [Value.slice.injEq] at e
    obtain ⟨rfl, -, rfl⟩ := e
    refine ⟨b, rfl, ?_⟩
    rw [h'.cellAt j (by omega)]
    exact strC_at hj
def MadeStrs (xs : List ByteArray) (w : World) (e : Ending) (w' : World) : Prop := ∃ v, e = .returned v ∧ Below w.heap.size w w' ∧ StrsO w' w.heap.size v xs
theorem info_str : (Try.prog.info? 9).map (fun i => (i.zero, i.size, i.bytes)) = some (some (.string ⟨#[]⟩), 1, 16) := by kernel_rfl
end
end Go.Proofs.Ytekaefeogbmmmaa
