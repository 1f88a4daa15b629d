/- Live trees: the document's Up, Below; two rows of texts. -/
import Derived.Test.YtekaefeogbmmmaaTrA
import Derived.Deep.AppendLies
namespace Go.Proofs.Ytekaefeogbmmmaa
open Go.RowKit
set_option linter.unusedVariables false
set_option linter.unusedSimpArgs false
/-- From a name upwards, so many at most. -/
def upF (l : List I12) : Nat → ByteArray → List ByteArray
  | 0, _ => []
  | n + 1, s => match iIdx l s with | none => [] | some k => match l[k]? with | none => [] | some x => x.name :: upF l n x.parent
def upI (l : List I12) (s : ByteArray) : List ByteArray := upF l (l.length + 1) s
theorem upF_none {l : List I12} {s : ByteArray} (h : iIdx l s = none) : ∀ n, upF l n s = []
  | 0 => rfl
  | n + 1 => by rw [upF, h]
theorem upF_some {l : List I12} {s : ByteArray} {k : Nat} {x : I12} (h : iIdx l s = some k) (hx : l[k]? = some x) (n : Nat) : upF l (n + 1) s = x.name :: upF l n x.parent := by
  rw [upF, h]; simp only [hx]
theorem upF_len (l : List I12) : ∀ n s, (upF l n s).length ≤ n
  | 0, _ => Nat.le_refl _
  | n + 1, s => by
    rw [upF]
    split
    · simp
    · split
      · simp
      · rename_i x _
        rw [List.length_cons]; have := upF_len l n x.parent; omega
def belowTo (l : List I12) (s : ByteArray) (k : Nat) : List ByteArray := ((l.take k).filter fun x => decide (x.parent = s)).map (·.name)
def belowI (l : List I12) (s : ByteArray) : List ByteArray := (l.filter fun x => decide (x.parent = s)).map (·.name)
theorem belowTo_all (l : List I12) (s : ByteArray) : belowTo l s l.length = belowI l s := by unfold belowTo belowI; rw [List.take_length]
theorem belowTo_step {l : List I12} {s : ByteArray} {k : Nat} {x : I12} (hx : l[k]? = some x) : belowTo l s (k + 1) = if x.parent = s then belowTo l s k ++ [x.name] else belowTo l s k := by
  unfold belowTo
  rw [List.take_add_one, hx]
  simp only [Option.toList_some, List.filter_append, List.map_append]
  by_cases h : x.parent = s
  · simp [h]
  · simp [h]
theorem belowTo_len (l : List I12) (s : ByteArray) (k : Nat) : (belowTo l s k).length ≤ k := by
  unfold belowTo
  rw [List.length_map]
  refine Nat.le_trans (List.length_filter_le ..) ?_
  rw [List.length_take]; omega
theorem news_str (w : World) (s : ByteArray) : ∀ j u, ([.string s] : List Value)[j]? = some u → (w.alloc (.cells #[.string s] 9)).cell? ((⟨w.heap.size, 0, none⟩ : Addr).add j) = some u := fun j u h => news_new w #[.string s] 9 j u h
theorem grow_cellT {w w' : World} {row : Option Nat} {p : Addr} {v : Value} (hg : w.grownBy w' row) (h : w.cell? p = some v) (hne : row ≠ some p.block) : w'.cell? p = some v :=
  (World.cell?_of_block (hg.block p.block (World.block_lt_of_cell? _ _ h) (fun e => hne e.symm))).trans h
section
variable (w : World)
set_option maxHeartbeats 4000000 in
set_option maxRecDepth 20000 in
theorem rup (l : List I12) (lv : Value) (h : IRow w l lv) (hl : l.length ≤ 1000) (s : ByteArray) :
    Calls Try.prog 22 #[lv, .string s] w (MadeStrs (upI l s) w) := by
  have RF := Lib.hid (fun W (hW : Below w.heap.size w W) s => rfind W l lv (h.below hW) s)
  obtain ⟨i0, hi0, hz0, hz1, hz2⟩ := info_partsT info_str
  obtain ⟨ao, cap, rfl, h1, h2, hat⟩ := h
  have HAT := Lib.hid hat
  clear hat h1 h2
  go_enter Try.func22, Try.ntmps22
  go_wp2_with fail
  with_reducible refine (RF.out w (Below.refl _ _) s).mono ?_
  rintro e w1 ⟨rfl, rfl⟩
  go_wp2_with fail
  go_loopg [5, 6] (l.length + 1) (fun m ov kv wr => ∃ (out : List ByteArray) (t : ByteArray), kv = .int .i64 (findI l t) ∧ out.length ≤ l.length + 1 ∧ l.length + 1 - out.length ≤ m ∧ Below w.heap.size w wr ∧ StrsO wr w.heap.size ov out ∧ Hid (upI l s = out ++ upF l (l.length + 1 - out.length) t))
  case atStart => exact ⟨[], s, rfl, Nat.zero_le _, Nat.le_refl _, Below.refl _ _, (own_none _ _ _ _ : World.ownsRow _ _ _ _ _ _ _), Lib.hid rfl⟩
  case round =>
    obtain ⟨out, t, rfl, hol, hm, hb, ho, UP⟩ := hrel
    have HM := Lib.hid hm
    have BR := Lib.hid hb
    have OO := Lib.hid ho
    obtain ⟨oo, oc, rfl⟩ := ho.shape
    clear hm hb ho
    cases hk : iIdx l t with
    | none =>
      have E := Lib.hid (show findI l t = -1 by unfold findI; rw [hk])
      have R := Lib.hid (show upI l s = out by rw [UP.out, upF_none hk, List.append_nil])
      rw [E.out]
      clear hk UP
      go_wp2_with fail
      go_ret
      exact ⟨_, rfl, BR.out, by rw [R.out]; exact OO.out⟩
    | some k =>
      have E := Lib.hid (show findI l t = (k : Int) by unfold findI; rw [hk])
      obtain ⟨x, hx, -⟩ := iIdx_spec hk
      have hkl := iIdx_lt hk
      have KK := Lib.hid hk
      have HX := Lib.hid hx
      obtain ⟨g, o, rfl, hcu⟩ := HAT.out k x hx
      have c0 := hold BR.out hcu.c0
      have c1 := hold BR.out hcu.c1
      have kp : (0 : Int) ≤ (k : Int) := by omega
      rw [E.out]
      clear hk hx hcu
      by_cases hfull : out.length = l.length + 1
      · have R := Lib.hid (show upI l s = out by rw [UP.out, hfull, Nat.sub_self]; unfold upF; rw [List.append_nil])
        have HF := Lib.hid hfull
        have gf : l.length < out.length := by omega
        have gl : out.length ≤ 1001 := by omega
        clear UP hfull
        go_wp2_with fail
        go_ret
        exact ⟨.slice oo out.length oc, rfl, BR.out, by rw [R.out]; exact OO.out⟩
      · have hlt : out.length ≤ l.length := by omega
        have gf : (out.length : Int) ≤ (l.length : Int) := by omega
        have NU := Lib.hid (show upI l s = (out ++ [x.name]) ++ upF l (l.length + 1 - (out ++ [x.name]).length) x.parent from by
          rw [UP.out, show l.length + 1 - out.length = (l.length - out.length) + 1 by omega, upF_some KK.out HX.out, List.append_assoc, List.length_append, List.length_singleton]
          congr 3
          omega)
        have BX := Lib.hid (below_al (Below.refl wr.heap.size wr) (.cells #[.string x.name] 9))
        have O1 := Lib.hid (show (wr.alloc (.cells #[.string x.name] 9)).ownsRow w.heap.size 9 1 (.slice oo out.length oc) out.length (strC out) from World.ownsRow.alloc OO.out _)
        have B1 := Lib.hid (below_tr BR.out BX.out)
        have LOW := Lib.hid (show ∀ q, (Value.slice oo out.length oc).ownBlock = some q → w.heap.size ≤ q from fun q hq => (World.ownsRow.lt OO.out q hq).1)
        have SZ := Lib.hid BR.out.size
        clear UP
        go_wp2_with (first
          | (at_builtin; refine wpList_append_lies _ rfl _ _ 48 rfl w.heap.size 9 i0 (.string ⟨#[]⟩) 1 16 Try.underlying48 hi0 hz0 hz1 hz2 rfl (by decide) (.slice oo out.length oc) out.length (strC out) rfl O1.out ⟨wr.heap.size, 0, none⟩ 1 1 [.string x.name] rfl rfl (news_str wr x.name) (by simp [Value.oneCell']) (by decide) (by unfold maxLen; omega) (by omega) B1.out.size _ rfl ?_; intro gg cc w6 hown6 hgrow6 hat6 hlt6; have c16 := grow_cellT hgrow6 (hold BX.out c1) (fun e => by have h7 := LOW.out g e; have h8 := World.block_lt_of_cell? _ _ (HAT.out k x HX.out |> fun ⟨_, _, e2, h9⟩ => by cases e2; exact h9.c0); simp only at h8; omega)))
        have B6 := Lib.hid (below_grown' B1.out hgrow6 LOW.out)
        have O6 := Lib.hid (show StrsO w6 w.heap.size (.slice (some ⟨gg, 0, none⟩) (out.length + 1) cc) (out ++ [x.name]) from by
          unfold StrsO
          rw [List.length_append, strC_app]; exact hown6)
        have FP := Lib.hid (RF.out w6 B6.out x.parent)
        clear hown6 hgrow6 hat6 hlt6
        with_reducible refine FP.out.mono ?_
        rintro e w7 ⟨rfl, rfl⟩
        go_wp2_with fail
        go_roundg (l.length + 1 - (out.length + 1))
        case rel => exact ⟨out ++ [x.name], x.parent, rfl, by rw [List.length_append]; simp; omega, by rw [List.length_append]; exact Nat.le_refl _, B6.out, O6.out, NU⟩
        case measure => have := HM.out; omega
end
end Go.Proofs.Ytekaefeogbmmmaa
