/- Live trees: what is right (pure); a node in a block of its own. -/
import Derived.Test.YtmpakgabehplbaaVecN
import Derived.Test.YtmpakgabehplbaaNatC
import Derived.Laws.Slices
import Derived.Laws.OwnMore
import Derived.Deep.AppendLies
namespace Go.Proofs.Ytmpakgabehplbaa
open Go.RowKit
set_option linter.unusedVariables false
set_option linter.unusedSimpArgs false
theorem tstr_eq (a c : ByteArray) : (a.toList == c.toList) = decide (a = c) := by
  by_cases h : a = c
  · subst h; simp
  · have : ¬ a.toList = c.toList := fun e => h (by rw [ByteArray.toList_eq, ByteArray.toList_eq] at e; exact ByteArray.ext (Array.ext' e))
    simp [h, this]
theorem tstr_is {a c : ByteArray} (h : a = c) : (a.toList == c.toList) = true := by rw [tstr_eq]; exact decide_eq_true h
theorem tstr_ne {a c : ByteArray} (h : a ≠ c) : (a.toList == c.toList) = false := by rw [tstr_eq]; exact decide_eq_false h
theorem tstr_empty (a : ByteArray) : a.toList.isEmpty = decide (a = ⟨#[]⟩) := by
  rw [ByteArray.toList_eq]
  by_cases h : a = ⟨#[]⟩
  · subst h; simp
  · have : a.data.toList ≠ [] := fun e => h (ByteArray.ext (Array.ext' e))
    cases hd : a.data.toList with
    | nil => exact absurd hd this
    | cons x r => simp [h]
theorem wadd (g o j : Nat) : (⟨g, o, none⟩ : Addr).add j = ⟨g, o + j, none⟩ := by unfold Addr.add; split <;> simp_all
theorem info_partsT {t : TypeId} {z : Value} {s b : Nat} (h : (Try.prog.info? t).map (fun i => (i.zero, i.size, i.bytes)) = some (some z, s, b)) : ∃ i, Try.prog.info? t = some i ∧ i.zero = some z ∧ i.size = s ∧ i.bytes = b := by
  obtain ⟨i, hi, h⟩ := Option.map_eq_some_iff.1 h
  simp only [Prod.mk.injEq] at h
  exact ⟨i, hi, h.1, h.2.1, h.2.2⟩
theorem own_lower {w : World} {B B' e z n : Nat} {v : Value} {xs : List Value} (h : w.ownsRow B e z v n xs) (hB : B' ≤ B) : w.ownsRow B' e z v n xs := by
  refine ⟨h.1, ?_⟩
  rcases h.2 with hn | ⟨g, cap, cur, rfl, hbg, hg, r⟩
  · exact .inl hn
  · exact .inr ⟨g, cap, cur, rfl, by omega, hg, r⟩
/-- A live node. -/
structure I12 where
  name : ByteArray
  parent : ByteArray
  lim : V3
  own : V3
  sub : V3
  ver : Int
def I12.cells (x : I12) : List Value := [.string x.name, .string x.parent, .int .i64 x.lim.c, .int .i64 x.lim.m, .int .i64 x.lim.p, .int .i64 x.own.c, .int .i64 x.own.m, .int .i64 x.own.p, .int .i64 x.sub.c, .int .i64 x.sub.m, .int .i64 x.sub.p, .int .i64 x.ver]
def I12.val (x : I12) : Value := .agg x.cells.toArray
/-- Its twelve cells lie at o in block g. -/
structure I12At (w : World) (g o : Nat) (u : I12) : Prop where
  c0 : w.cell? ⟨g, o, none⟩ = some (.string u.name)
  c1 : w.cell? ⟨g, o + 1, none⟩ = some (.string u.parent)
  c2 : w.cell? ⟨g, o + 2, none⟩ = some (.int .i64 u.lim.c)
  c3 : w.cell? ⟨g, o + 3, none⟩ = some (.int .i64 u.lim.m)
  c4 : w.cell? ⟨g, o + 4, none⟩ = some (.int .i64 u.lim.p)
  c5 : w.cell? ⟨g, o + 5, none⟩ = some (.int .i64 u.own.c)
  c6 : w.cell? ⟨g, o + 6, none⟩ = some (.int .i64 u.own.m)
  c7 : w.cell? ⟨g, o + 7, none⟩ = some (.int .i64 u.own.p)
  c8 : w.cell? ⟨g, o + 8, none⟩ = some (.int .i64 u.sub.c)
  c9 : w.cell? ⟨g, o + 9, none⟩ = some (.int .i64 u.sub.m)
  c10 : w.cell? ⟨g, o + 10, none⟩ = some (.int .i64 u.sub.p)
  c11 : w.cell? ⟨g, o + 11, none⟩ = some (.int .i64 u.ver)
theorem I12At.below {w w' : World} {g o : Nat} {u : I12} (h : I12At w g o u) (hb : Below w.heap.size w w') : I12At w' g o u :=
  ⟨hold hb h.c0, hold hb h.c1, hold hb h.c2, hold hb h.c3, hold hb h.c4, hold hb h.c5, hold hb h.c6, hold hb h.c7, hold hb h.c8, hold hb h.c9, hold hb h.c10, hold hb h.c11⟩
/-- Row l as the slice value lv reads. -/
def IRow (w : World) (l : List I12) (lv : Value) : Prop := ∃ ao cap, lv = .slice ao l.length cap ∧ l.length ≤ cap ∧ cap ≤ maxLen ∧ ∀ (i : Nat) (u : I12), l[i]? = some u → ∃ g o, ao = some ⟨g, o, none⟩ ∧ I12At w g (o + i * 12) u
theorem IRow.below {w w' : World} {l : List I12} {lv : Value} (h : IRow w l lv) (hb : Below w.heap.size w w') : IRow w' l lv := by
  obtain ⟨ao, cap, e, h1, h2, hc⟩ := h
  refine ⟨ao, cap, e, h1, h2, fun i u hu => ?_⟩
  obtain ⟨g, o, e2, h3⟩ := hc i u hu
  exact ⟨g, o, e2, h3.below hb⟩
theorem IRow.nil (w : World) : IRow w [] (.slice none 0 0) := ⟨none, 0, rfl, Nat.le_refl _, Nat.zero_le _, fun i u hu => by simp at hu⟩
theorem IRow.shape {w : World} {l : List I12} {lv : Value} (h : IRow w l lv) : ∃ ao cap, lv = .slice ao l.length cap := by obtain ⟨ao, cap, rfl, -⟩ := h; exact ⟨ao, cap, rfl⟩
/-- The place of a name. -/
def iIdx (l : List I12) (s : ByteArray) : Option Nat := l.findIdx? fun x => decide (x.name = s)
def findI (l : List I12) (s : ByteArray) : Int := match iIdx l s with | some k => (k : Int) | none => -1
theorem iIdx_some {l : List I12} {s : ByteArray} {k : Nat} {x : I12} (hx : l[k]? = some x) (hn : x.name = s) (hb : ∀ j y, j < k → l[j]? = some y → y.name ≠ s) : iIdx l s = some k := by
  unfold iIdx
  rw [List.findIdx?_eq_some_iff_getElem]
  obtain ⟨hk, rfl⟩ := List.getElem?_eq_some_iff.1 hx
  refine ⟨hk, by simpa using hn, fun j hj => ?_⟩
  have := hb j _ hj (List.getElem?_eq_getElem (by omega))
  simpa using this
theorem iIdx_none {l : List I12} {s : ByteArray} (hb : ∀ j y, j < l.length → l[j]? = some y → y.name ≠ s) : iIdx l s = none := by
  unfold iIdx
  rw [List.findIdx?_eq_none_iff]
  intro x hx
  obtain ⟨j, hj, rfl⟩ := List.mem_iff_getElem.1 hx
  have := hb j _ hj (List.getElem?_eq_getElem hj)
  simpa using this
theorem iIdx_spec {l : List I12} {s : ByteArray} {k : Nat} (h : iIdx l s = some k) : ∃ x, l[k]? = some x ∧ x.name = s ∧ ∀ j y, j < k → l[j]? = some y → y.name ≠ s := by
  unfold iIdx at h
  rw [List.findIdx?_eq_some_iff_getElem] at h
  obtain ⟨hk, h1, h2⟩ := h
  refine ⟨l[k], List.getElem?_eq_getElem hk, by simpa using h1, fun j y hj hy => ?_⟩
  obtain ⟨hj2, rfl⟩ := List.getElem?_eq_some_iff.1 hy
  have := h2 j hj
  simpa using this
theorem iIdx_no {l : List I12} {s : ByteArray} (h : iIdx l s = none) : ∀ x ∈ l, x.name ≠ s := by
  unfold iIdx at h
  rw [List.findIdx?_eq_none_iff] at h
  intro x hx
  have := h x hx
  simpa using this
theorem iIdx_lt {l : List I12} {s : ByteArray} {k : Nat} (h : iIdx l s = some k) : k < l.length := by
  obtain ⟨x, hx, -⟩ := iIdx_spec h
  exact (List.getElem?_eq_some_iff.1 hx).1
section
variable (w : World)
set_option maxHeartbeats 1000000 in
set_option maxRecDepth 20000 in
theorem rfind (l : List I12) (lv : Value) (h : IRow w l lv) (s : ByteArray) :
    Calls Try.prog 28 #[lv, .string s] w fun e w' => e = .returned (.int .i64 (findI l s)) ∧ w = w' := by
  obtain ⟨ao, cap, rfl, h1, h2, hat⟩ := h
  have HAT := Lib.hid hat
  unfold maxLen at h2
  have hl : l.length ≤ 9223372036854775807 := by omega
  clear hat h1 h2
  go_enter Try.func28, Try.ntmps28
  go_wp2_with fail
  go_loopg [5] l.length (fun m iv wr => ∃ k : Nat, iv = .int .i64 k ∧ l.length - k ≤ m ∧ k ≤ l.length ∧ w = wr ∧ Hid (∀ j y, j < k → l[j]? = some y → y.name ≠ s))
  case atStart => exact ⟨0, rfl, Nat.le_refl _, Nat.zero_le _, rfl, Lib.hid (fun j y hj => by omega)⟩
  case round =>
    obtain ⟨k, rfl, hm, hk, rfl, NB⟩ := hrel
    have HM := Lib.hid hm
    clear hm
    by_cases hlt : k < l.length
    · obtain ⟨u, hu⟩ : ∃ u, l[k]? = some u := ⟨_, List.getElem?_eq_getElem hlt⟩
      have HU := Lib.hid hu
      obtain ⟨g, o, rfl, hcu⟩ := HAT.out k u hu
      have c0 := hcu.c0
      clear hu hcu
      by_cases hn : u.name = s
      · have e := tstr_is hn
        have R := Lib.hid (show findI l s = (k : Int) by unfold findI; rw [iIdx_some HU.out hn NB.out])
        clear hn
        go_wp2_with fail
        go_ret
        exact ⟨by rw [R.out]; rfl, rfl⟩
      · have e := tstr_ne hn
        have NX := Lib.hid (show ∀ j y, j < k + 1 → l[j]? = some y → y.name ≠ s from fun j y hj hy => by
          by_cases ej : j = k
          · subst ej
            obtain rfl : u = y := Option.some.inj (HU.out.symm.trans hy)
            exact hn
          · exact NB.out j y (by omega) hy)
        clear hn
        go_wp2_with fail
        go_roundg (l.length - (k + 1))
        case rel => exact ⟨k + 1, by go_num, Nat.le_refl _, hlt, rfl, NX⟩
        case measure => have := HM.out; omega
    · obtain rfl : k = l.length := by omega
      have R := Lib.hid (show findI l s = -1 by unfold findI; rw [iIdx_none NB.out])
      go_wp2_with fail
      go_ret
      exact ⟨by rw [R.out]; rfl, rfl⟩
/-- Texts, as cells. -/
def strC (ks : List ByteArray) : List Value := ks.map fun s => .string s
theorem strC_app (a b : List ByteArray) : strC (a ++ b) = strC a ++ strC b := by simp [strC]
theorem strC_len (a : List ByteArray) : (strC a).length = a.length := by simp [strC]
theorem strC_one (l : List ByteArray) : ∀ u ∈ strC l, u.oneCell' = true := by
  intro u hu
  unfold strC at hu
  obtain ⟨k, -, rfl⟩ := List.mem_map.1 hu
  rfl
theorem strC_at {xs : List ByteArray} {j : Nat} {s : ByteArray} (h : xs[j]? = some s) : (strC xs)[j]? = some (.string s) := by unfold strC; rw [List.getElem?_map, h]; rfl
/-- A row of texts that a call itself makes. -/
def StrsO (w : World) (B : Nat) (v : Value) (xs : List ByteArray) : Prop := w.ownsRow B 9 1 v xs.length (strC xs)
theorem StrsO.below {w w' : World} {B : Nat} {v : Value} {xs : List ByteArray} (h : StrsO w B v xs) (hb : Below w.heap.size w w') : StrsO w' B v xs := own_below h hb
theorem StrsO.shape {w : World} {B : Nat} {v : Value} {xs : List ByteArray} (h : StrsO w B v xs) : ∃ ao cap, v = .slice ao xs.length cap := by
  rcases h.2 with ⟨rfl, h0⟩ | ⟨g, cap, cur, rfl, _⟩
  · rw [h0]; exact ⟨_, _, rfl⟩
  · exact ⟨_, _, rfl⟩
theorem StrsO.cell {w : World} {B : Nat} {ao : Option Addr} {cap : Nat} {xs : List ByteArray} (h : StrsO w B (.slice ao xs.length cap) xs) {j : Nat} {s : ByteArray} (hj : xs[j]? = some s) : ∃ b, ao = some ⟨b, 0, none⟩ ∧ w.cell? ⟨b, j, none⟩ = some (.string s) := by
  have hjl := (List.getElem?_eq_some_iff.1 hj).1
  have h' := h
  unfold StrsO at h'
  rcases h.2 with ⟨e, h0⟩ | ⟨b, cap', cur, e, _⟩
  · omega
  · simp only [Value.slice.injEq] at e
    obtain ⟨rfl, -, rfl⟩ := e
    refine ⟨b, rfl, ?_⟩
    rw [h'.cellAt j (by omega)]
    exact strC_at hj
def MadeStrs (xs : List ByteArray) (w : World) (e : Ending) (w' : World) : Prop := ∃ v, e = .returned v ∧ Below w.heap.size w w' ∧ StrsO w' w.heap.size v xs
theorem info_str : (Try.prog.info? 9).map (fun i => (i.zero, i.size, i.bytes)) = some (some (.string ⟨#[]⟩), 1, 16) := by kernel_rfl
end
end Go.Proofs.Ytmpakgabehplbaa
namespace Go.Proofs.Ytmpakgabehplbaa
open Go.RowKit
set_option linter.unusedVariables false
set_option linter.unusedSimpArgs false
/-- From a name upwards, so many at most. -/
def upF (l : List I12) : Nat → ByteArray → List ByteArray
  | 0, _ => []
  | n + 1, s => match iIdx l s with | none => [] | some k => match l[k]? with | none => [] | some x => x.name :: upF l n x.parent
def upI (l : List I12) (s : ByteArray) : List ByteArray := upF l (l.length + 1) s
theorem upF_none {l : List I12} {s : ByteArray} (h : iIdx l s = none) : ∀ n, upF l n s = []
  | 0 => rfl
  | n + 1 => by rw [upF, h]
theorem upF_some {l : List I12} {s : ByteArray} {k : Nat} {x : I12} (h : iIdx l s = some k) (hx : l[k]? = some x) (n : Nat) : upF l (n + 1) s = x.name :: upF l n x.parent := by
  rw [upF, h]; simp only [hx]
theorem upF_len (l : List I12) : ∀ n s, (upF l n s).length ≤ n
  | 0, _ => Nat.le_refl _
  | n + 1, s => by
    rw [upF]
    split
    · simp
    · split
      · simp
      · rename_i x _
        rw [List.length_cons]; have := upF_len l n x.parent; omega
def belowTo (l : List I12) (s : ByteArray) (k : Nat) : List ByteArray := ((l.take k).filter fun x => decide (x.parent = s)).map (·.name)
def belowI (l : List I12) (s : ByteArray) : List ByteArray := (l.filter fun x => decide (x.parent = s)).map (·.name)
theorem belowTo_all (l : List I12) (s : ByteArray) : belowTo l s l.length = belowI l s := by unfold belowTo belowI; rw [List.take_length]
theorem belowTo_step {l : List I12} {s : ByteArray} {k : Nat} {x : I12} (hx : l[k]? = some x) : belowTo l s (k + 1) = if x.parent = s then belowTo l s k ++ [x.name] else belowTo l s k := by
  unfold belowTo
  rw [List.take_add_one, hx]
  simp only [Option.toList_some, List.filter_append, List.map_append]
  by_cases h : x.parent = s
  · simp [h]
  · simp [h]
theorem belowTo_len (l : List I12) (s : ByteArray) (k : Nat) : (belowTo l s k).length ≤ k := by
  unfold belowTo
  rw [List.length_map]
  refine Nat.le_trans (List.length_filter_le ..) ?_
  rw [List.length_take]; omega
theorem news_str (w : World) (s : ByteArray) : ∀ j u, ([.string s] : List Value)[j]? = some u → (w.alloc (.cells #[.string s] 9)).cell? ((⟨w.heap.size, 0, none⟩ : Addr).add j) = some u := fun j u h => news_new w #[.string s] 9 j u h
theorem grow_cellT {w w' : World} {row : Option Nat} {p : Addr} {v : Value} (hg : w.grownBy w' row) (h : w.cell? p = some v) (hne : row ≠ some p.block) : w'.cell? p = some v :=
  (World.cell?_of_block (hg.block p.block (World.block_lt_of_cell? _ _ h) (fun e => hne e.symm))).trans h
section
variable (w : World)
set_option maxHeartbeats 4000000 in
set_option maxRecDepth 20000 in
theorem rup (l : List I12) (lv : Value) (h : IRow w l lv) (hl : l.length ≤ 1000) (s : ByteArray) :
    Calls Try.prog 33 #[lv, .string s] w (MadeStrs (upI l s) w) := by
  have RF := Lib.hid (fun W (hW : Below w.heap.size w W) s => rfind W l lv (h.below hW) s)
  obtain ⟨i0, hi0, hz0, hz1, hz2⟩ := info_partsT info_str
  obtain ⟨ao, cap, rfl, h1, h2, hat⟩ := h
  have HAT := Lib.hid hat
  clear hat h1 h2
  go_enter Try.func33, Try.ntmps33
  go_wp2_with fail
  with_reducible refine (RF.out w (Below.refl _ _) s).mono ?_
  rintro e w1 ⟨rfl, rfl⟩
  go_wp2_with fail
  go_loopg [5, 6] (l.length + 1) (fun m ov kv wr => ∃ (out : List ByteArray) (t : ByteArray), kv = .int .i64 (findI l t) ∧ out.length ≤ l.length + 1 ∧ l.length + 1 - out.length ≤ m ∧ Below w.heap.size w wr ∧ StrsO wr w.heap.size ov out ∧ Hid (upI l s = out ++ upF l (l.length + 1 - out.length) t))
  case atStart => exact ⟨[], s, rfl, Nat.zero_le _, Nat.le_refl _, Below.refl _ _, (own_none _ _ _ _ : World.ownsRow _ _ _ _ _ _ _), Lib.hid rfl⟩
  case round =>
    obtain ⟨out, t, rfl, hol, hm, hb, ho, UP⟩ := hrel
    have HM := Lib.hid hm
    have BR := Lib.hid hb
    have OO := Lib.hid ho
    obtain ⟨oo, oc, rfl⟩ := ho.shape
    clear hm hb ho
    cases hk : iIdx l t with
    | none =>
      have E := Lib.hid (show findI l t = -1 by unfold findI; rw [hk])
      have R := Lib.hid (show upI l s = out by rw [UP.out, upF_none hk, List.append_nil])
      rw [E.out]
      clear hk UP
      go_wp2_with fail
      go_ret
      exact ⟨_, rfl, BR.out, by rw [R.out]; exact OO.out⟩
    | some k =>
      have E := Lib.hid (show findI l t = (k : Int) by unfold findI; rw [hk])
      obtain ⟨x, hx, -⟩ := iIdx_spec hk
      have hkl := iIdx_lt hk
      have KK := Lib.hid hk
      have HX := Lib.hid hx
      obtain ⟨g, o, rfl, hcu⟩ := HAT.out k x hx
      have c0 := hold BR.out hcu.c0
      have c1 := hold BR.out hcu.c1
      have kp : (0 : Int) ≤ (k : Int) := by omega
      rw [E.out]
      clear hk hx hcu
      by_cases hfull : out.length = l.length + 1
      · have R := Lib.hid (show upI l s = out by rw [UP.out, hfull, Nat.sub_self]; unfold upF; rw [List.append_nil])
        have HF := Lib.hid hfull
        have gf : l.length < out.length := by omega
        have gl : out.length ≤ 1001 := by omega
        clear UP hfull
        go_wp2_with fail
        go_ret
        exact ⟨.slice oo out.length oc, rfl, BR.out, by rw [R.out]; exact OO.out⟩
      · have hlt : out.length ≤ l.length := by omega
        have gf : (out.length : Int) ≤ (l.length : Int) := by omega
        have NU := Lib.hid (show upI l s = (out ++ [x.name]) ++ upF l (l.length + 1 - (out ++ [x.name]).length) x.parent from by
          rw [UP.out, show l.length + 1 - out.length = (l.length - out.length) + 1 by omega, upF_some KK.out HX.out, List.append_assoc, List.length_append, List.length_singleton]
          congr 3
          omega)
        have BX := Lib.hid (below_al (Below.refl wr.heap.size wr) (.cells #[.string x.name] 9))
        have O1 := Lib.hid (show (wr.alloc (.cells #[.string x.name] 9)).ownsRow w.heap.size 9 1 (.slice oo out.length oc) out.length (strC out) from World.ownsRow.alloc OO.out _)
        have B1 := Lib.hid (below_tr BR.out BX.out)
        have LOW := Lib.hid (show ∀ q, (Value.slice oo out.length oc).ownBlock = some q → w.heap.size ≤ q from fun q hq => (World.ownsRow.lt OO.out q hq).1)
        have SZ := Lib.hid BR.out.size
        clear UP
        go_wp2_with (first
          | (at_builtin; refine wpList_append_lies _ rfl _ _ 64 rfl w.heap.size 9 i0 (.string ⟨#[]⟩) 1 16 Try.underlying64 hi0 hz0 hz1 hz2 rfl (by decide) (.slice oo out.length oc) out.length (strC out) rfl O1.out ⟨wr.heap.size, 0, none⟩ 1 1 [.string x.name] rfl rfl (news_str wr x.name) (by simp [Value.oneCell']) (by decide) (by unfold maxLen; omega) (by omega) B1.out.size _ rfl ?_; intro gg cc w6 hown6 hgrow6 hat6 hlt6; have c16 := grow_cellT hgrow6 (hold BX.out c1) (fun e => by have h7 := LOW.out g e; have h8 := World.block_lt_of_cell? _ _ (HAT.out k x HX.out |> fun ⟨_, _, e2, h9⟩ => by cases e2; exact h9.c0); simp only at h8; omega)))
        have B6 := Lib.hid (below_grown' B1.out hgrow6 LOW.out)
        have O6 := Lib.hid (show StrsO w6 w.heap.size (.slice (some ⟨gg, 0, none⟩) (out.length + 1) cc) (out ++ [x.name]) from by
          unfold StrsO
          rw [List.length_append, strC_app]; exact hown6)
        have FP := Lib.hid (RF.out w6 B6.out x.parent)
        clear hown6 hgrow6 hat6 hlt6
        with_reducible refine FP.out.mono ?_
        rintro e w7 ⟨rfl, rfl⟩
        go_wp2_with fail
        go_roundg (l.length + 1 - (out.length + 1))
        case rel => exact ⟨out ++ [x.name], x.parent, rfl, by rw [List.length_append]; simp; omega, by rw [List.length_append]; exact Nat.le_refl _, B6.out, O6.out, NU⟩
        case measure => have := HM.out; omega
set_option maxHeartbeats 4000000 in
set_option maxRecDepth 20000 in
theorem rbelow (l : List I12) (lv : Value) (h : IRow w l lv) (hl : l.length ≤ 1000) (s : ByteArray) :
    Calls Try.prog 55 #[lv, .string s] w (MadeStrs (belowI l s) w) := by
  obtain ⟨i0, hi0, hz0, hz1, hz2⟩ := info_partsT info_str
  obtain ⟨ao, cap, rfl, h1, h2, hat⟩ := h
  have HAT := Lib.hid hat
  clear hat h1 h2
  go_enter Try.func55, Try.ntmps55
  go_wp2_with fail
  go_loopg [5, 6] l.length (fun m ov kv wr => ∃ k : Nat, kv = .int .i64 (k : Int) ∧ k ≤ l.length ∧ l.length - k ≤ m ∧ Below w.heap.size w wr ∧ StrsO wr w.heap.size ov (belowTo l s k))
  case atStart => exact ⟨0, rfl, Nat.zero_le _, Nat.le_refl _, Below.refl _ _, (own_none _ _ _ _ : World.ownsRow _ _ _ _ _ _ _)⟩
  case round =>
    obtain ⟨k, rfl, hk, hm, hb, ho⟩ := hrel
    have HM := Lib.hid hm
    have BR := Lib.hid hb
    have OO := Lib.hid ho
    obtain ⟨oo, oc, rfl⟩ := ho.shape
    clear hm hb ho
    by_cases hlt : k < l.length
    · obtain ⟨x, hx⟩ : ∃ x, l[k]? = some x := ⟨_, List.getElem?_eq_getElem hlt⟩
      have HX := Lib.hid hx
      obtain ⟨g, o, rfl, hcu⟩ := HAT.out k x hx
      have c0 := hold BR.out hcu.c0
      have c1 := hold BR.out hcu.c1
      have STP := Lib.hid (belowTo_step (s := s) hx)
      have LN := Lib.hid (belowTo_len l s k)
      generalize hout : belowTo l s k = out at *
      clear hx hcu
      by_cases hn : x.parent = s
      · have e := tstr_is hn
        have NS := Lib.hid (show belowTo l s (k + 1) = out ++ [x.name] by rw [STP.out, if_pos hn])
        have BX := Lib.hid (below_al (Below.refl wr.heap.size wr) (.cells #[.string x.name] 9))
        have O1 := Lib.hid (show (wr.alloc (.cells #[.string x.name] 9)).ownsRow w.heap.size 9 1 (.slice oo out.length oc) out.length (strC out) from World.ownsRow.alloc OO.out _)
        have B1 := Lib.hid (below_tr BR.out BX.out)
        have LOW := Lib.hid (show ∀ q, (Value.slice oo out.length oc).ownBlock = some q → w.heap.size ≤ q from fun q hq => (World.ownsRow.lt OO.out q hq).1)
        clear hn STP
        go_wp2_with (first
          | (at_builtin; refine wpList_append_lies _ rfl _ _ 64 rfl w.heap.size 9 i0 (.string ⟨#[]⟩) 1 16 Try.underlying64 hi0 hz0 hz1 hz2 rfl (by decide) (.slice oo out.length oc) out.length (strC out) rfl O1.out ⟨wr.heap.size, 0, none⟩ 1 1 [.string x.name] rfl rfl (news_str wr x.name) (by simp [Value.oneCell']) (by decide) (by have := LN.out; unfold maxLen; omega) (by have := LN.out; omega) B1.out.size _ rfl ?_; intro gg cc w6 hown6 hgrow6 hat6 hlt6))
        have B6 := Lib.hid (below_grown' B1.out hgrow6 LOW.out)
        have O6 := Lib.hid (show StrsO w6 w.heap.size (.slice (some ⟨gg, 0, none⟩) (out.length + 1) cc) (belowTo l s (k + 1)) from by
          rw [NS.out]
          unfold StrsO
          rw [List.length_append, strC_app]; exact hown6)
        clear hown6 hgrow6 hat6 hlt6
        go_wp2_with fail
        go_roundg (l.length - (k + 1))
        case rel => exact ⟨k + 1, by go_num, hlt, Nat.le_refl _, B6.out, O6.out⟩
        case measure => have := HM.out; omega
      · have e := tstr_ne hn
        have NS := Lib.hid (show belowTo l s (k + 1) = out by rw [STP.out, if_neg hn])
        clear hn STP
        go_wp2_with fail
        go_roundg (l.length - (k + 1))
        case rel => exact ⟨k + 1, by go_num, hlt, Nat.le_refl _, BR.out, by rw [NS.out]; exact OO.out⟩
        case measure => have := HM.out; omega
    · obtain rfl : k = l.length := by omega
      have R := Lib.hid (belowTo_all l s)
      go_wp2_with fail
      go_ret
      exact ⟨_, rfl, BR.out, by rw [← R.out]; exact OO.out⟩
end
end Go.Proofs.Ytmpakgabehplbaa
namespace Go.Proofs.Ytmpakgabehplbaa
open Go.RowKit
set_option linter.unusedVariables false
set_option linter.unusedSimpArgs false
def nameB (s : ByteArray) : Bool := !decide (s = ⟨#[]⟩) && decide (s.size ≤ 24)
def ltS (a b : ByteArray) : Bool := Op.bytesLess a.toList b.toList
theorem may_bounds {v : V3} (h : mayV v = true) : (0 ≤ v.c ∧ v.c ≤ 1099511627776) ∧ (0 ≤ v.m ∧ v.m ≤ 1099511627776) ∧ (0 ≤ v.p ∧ v.p ≤ 1099511627776) := by
  unfold mayV leV at h
  simp only [Bool.and_eq_true, decide_eq_true_eq] at h
  simp only [z3, mostV] at h
  omega
section
variable (w : World)
theorem rmayname (s : ByteArray) (hs : s.size ≤ 9223372036854775807) : Calls Try.prog 29 #[.string s] w fun e w' => e = .returned (.bool (nameB s)) ∧ w = w' := by
  have E : Hid (nameB s = (!decide (s = ⟨#[]⟩) && decide (s.size ≤ 24))) := rfl
  by_cases h : s = ⟨#[]⟩
  · have e : s.toList.isEmpty = true := by rw [tstr_empty]; exact decide_eq_true h
    have e' : s.toList = [] := by simpa using e
    have R := Lib.hid (show nameB s = false by rw [E.out]; simp [h])
    clear h E
    go_enter Try.func29, Try.ntmps29
    go_wp2_with fail
    go_ret
    exact ⟨by rw [R.out]; rfl, rfl⟩
  · have e : s.toList.isEmpty = false := by rw [tstr_empty]; exact decide_eq_false h
    have e' : ¬ s.toList = [] := by simpa using e
    have R := Lib.hid (show nameB s = decide (s.size ≤ 24) by rw [E.out]; simp [h])
    clear h E
    by_cases h2 : s.size ≤ 24
    · have R2 := Lib.hid (show nameB s = true by rw [R.out]; simp [h2])
      go_enter Try.func29, Try.ntmps29
      go_wp2_with fail
      go_ret
      exact ⟨by rw [R2.out]; show Ending.returned (.bool (decide ((s.size : Int) ≤ 24))) = _; rw [decide_eq_true (by omega)], rfl⟩
    · have R2 := Lib.hid (show nameB s = false by rw [R.out]; simp [h2])
      have h3 : 24 < s.size := by omega
      go_enter Try.func29, Try.ntmps29
      go_wp2_with fail
      go_ret
      exact ⟨by rw [R2.out]; show Ending.returned (.bool (decide ((s.size : Int) ≤ 24))) = _; rw [decide_eq_false (by omega)], rfl⟩
end
/-- Does a node's name rise above the one ahead of it? -/
def riseB (l : List I12) (i : Nat) (x : I12) : Bool := match i with | 0 => true | j + 1 => match l[j]? with | some y => ltS y.name x.name | none => true
def parB (l : List I12) (x : I12) : Bool := decide (x.parent = ⟨#[]⟩) || (iIdx l x.parent).isSome
/-- What a node is by itself. -/
def i1OK (l : List I12) (i : Nat) (x : I12) : Bool := nameB x.name && (riseB l i x && (mayV x.lim && (mayV x.own && (parB l x && (decide (1 ≤ x.ver) && (decide (x.ver ≤ 9007199254740992) && (leV x.sub x.lim && mayV x.sub)))))))
/-- Its own, and what those have whose Parent it is, of the first k. -/
def subTo (l : List I12) (x : I12) (k : Nat) : V3 := ((l.take k).filter fun y => decide (y.parent = x.name)).foldl (fun v y => addV v y.sub) x.own
def eqV (a b : V3) : Bool := decide (a.c = b.c) && (decide (a.m = b.m) && decide (a.p = b.p))
theorem eqV_iff {a b : V3} : eqV a b = true ↔ a = b := by
  unfold eqV
  simp only [Bool.and_eq_true, decide_eq_true_eq]
  constructor
  · rintro ⟨h1, h2, h3⟩; cases a; cases b; simp_all
  · rintro rfl; exact ⟨rfl, rfl, rfl⟩
def i2OK (l : List I12) (x : I12) : Bool := eqV (subTo l x l.length) x.sub && decide ((upI l x.name).length ≤ l.length)
def allI (l : List I12) (f : Nat → I12 → Bool) (k : Nat) : Prop := ∀ j y, j < k → l[j]? = some y → f j y = true
def rightP (l : List I12) : Prop := l.length ≤ 120 ∧ allI l (i1OK l) l.length ∧ allI l (fun _ x => i2OK l x) l.length
theorem allI.next {l : List I12} {f : Nat → I12 → Bool} {k : Nat} (h : allI l f k) {x : I12} (hx : l[k]? = some x) (hf : f k x = true) : allI l f (k + 1) := fun j y hj hy => by
  by_cases e : j = k
  · subst e
    obtain rfl : x = y := Option.some.inj (hx.symm.trans hy)
    exact hf
  · exact h j y (by omega) hy
theorem subTo_step {l : List I12} {x y : I12} {k : Nat} (hy : l[k]? = some y) : subTo l x (k + 1) = if y.parent = x.name then addV (subTo l x k) y.sub else subTo l x k := by
  unfold subTo
  rw [List.take_add_one, hy]
  simp only [Option.toList_some, List.filter_append, List.foldl_append]
  by_cases h : y.parent = x.name
  · rw [if_pos h]; simp [h]
  · rw [if_neg h]; simp [h]
theorem subTo_up {l : List I12} {x : I12} (ho : mayV x.own = true) (hm : ∀ y ∈ l, mayV y.sub = true) : ∀ k, k ≤ l.length → (0 ≤ (subTo l x k).c ∧ (subTo l x k).c ≤ ((k : Int) + 1) * 1099511627776) ∧ (0 ≤ (subTo l x k).m ∧ (subTo l x k).m ≤ ((k : Int) + 1) * 1099511627776) ∧ (0 ≤ (subTo l x k).p ∧ (subTo l x k).p ≤ ((k : Int) + 1) * 1099511627776)
  | 0, _ => by
    have := may_bounds ho
    simp only [subTo, List.take_zero, List.filter_nil, List.foldl_nil]
    omega
  | k + 1, hk => by
    have ih := subTo_up ho hm k (by omega)
    have hx : l[k]? = some (l[k]'(by omega)) := List.getElem?_eq_getElem (by omega)
    have hb := may_bounds (hm (l[k]'(by omega)) (List.getElem_mem _))
    rw [subTo_step hx]
    split
    · unfold addV; simp only; omega
    · omega
/-- A node in a block of its own. -/
def IBlk (w : World) (b : Nat) (u : I12) : Prop := w.heap[b]? = some (.cells #[.string u.name, .string u.parent, .int .i64 u.lim.c, .int .i64 u.lim.m, .int .i64 u.lim.p, .int .i64 u.own.c, .int .i64 u.own.m, .int .i64 u.own.p, .int .i64 u.sub.c, .int .i64 u.sub.m, .int .i64 u.sub.p, .int .i64 u.ver] 52 (0, 0))
theorem IBlk.lt {w : World} {b : Nat} {u : I12} (h : IBlk w b u) : b < w.heap.size := (Array.getElem?_eq_some_iff.1 h).1
theorem IBlk.below {w w' : World} {b : Nat} {u : I12} (h : IBlk w b u) (hb : Below w.heap.size w w') : IBlk w' b u := (hb.block b h.lt).trans h
theorem IBlk.new (w : World) (u : I12) : IBlk (w.alloc (.cells #[.string u.name, .string u.parent, .int .i64 u.lim.c, .int .i64 u.lim.m, .int .i64 u.lim.p, .int .i64 u.own.c, .int .i64 u.own.m, .int .i64 u.own.p, .int .i64 u.sub.c, .int .i64 u.sub.m, .int .i64 u.sub.p, .int .i64 u.ver] 52)) w.heap.size u := heap_alloc_new w _
theorem IBlk.cells {w : World} {b : Nat} {u : I12} (h : IBlk w b u) : I12At w b 0 u :=
  ⟨(cell_of_row _ _ 0 _ _ _ h).trans rfl, (cell_of_row _ _ 1 _ _ _ h).trans rfl, (cell_of_row _ _ 2 _ _ _ h).trans rfl, (cell_of_row _ _ 3 _ _ _ h).trans rfl, (cell_of_row _ _ 4 _ _ _ h).trans rfl, (cell_of_row _ _ 5 _ _ _ h).trans rfl, (cell_of_row _ _ 6 _ _ _ h).trans rfl, (cell_of_row _ _ 7 _ _ _ h).trans rfl, (cell_of_row _ _ 8 _ _ _ h).trans rfl, (cell_of_row _ _ 9 _ _ _ h).trans rfl, (cell_of_row _ _ 10 _ _ _ h).trans rfl, (cell_of_row _ _ 11 _ _ _ h).trans rfl⟩
end Go.Proofs.Ytmpakgabehplbaa
