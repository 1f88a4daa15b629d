/- Package fun: join. -/
import Derived.Test.YtoaachefdbepiaaDoorFunG
import Derived.Test.YtoaachefdbepiaaDoorOwnV
import Derived.Test.YtoaachefdbepiaaDoorValK
namespace Go.Proofs.YtoaachefdbepiaaDoor
open Go.RowKit
set_option linter.unusedVariables false
set_option linter.unusedSimpArgs false

/-- Texts with one between. -/
def weave (by_ : ByteArray) : List ByteArray → List ByteArray
  | [] => []
  | x :: t => x :: t.flatMap fun y => [by_, y]
theorem weave_snoc (b : ByteArray) (xs : List ByteArray) (x : ByteArray) : weave b (xs ++ [x]) = (if xs = [] then [] else weave b xs ++ [b]) ++ [x] := by
  cases xs with
  | nil => rfl
  | cons y t => simp [weave]
theorem weave_len (b : ByteArray) (xs : List ByteArray) : (weave b xs).length ≤ 2 * xs.length := by
  cases xs with
  | nil => simp [weave]
  | cons y t =>
    have : (t.flatMap fun y => [b, y]).length = 2 * t.length := by
      induction t with
      | nil => rfl
      | cons a t ih => simp [List.flatMap_cons, ih]; omega
    simp [weave] at this ⊢
    omega
theorem weave_mem {b : ByteArray} {xs : List ByteArray} {m : Nat} (hb : b.size ≤ m) (hx : ∀ x ∈ xs, x.size ≤ m) : ∀ x ∈ weave b xs, x.size ≤ m := by
  intro x h
  cases xs with
  | nil => simp [weave] at h
  | cons y t =>
    simp only [weave, List.mem_cons, List.mem_flatMap] at h
    rcases h with rfl | ⟨z, hz, h⟩
    · exact hx _ (by simp)
    · simp at h
      rcases h with rfl | rfl
      · exact hb
      · exact hx _ (by simp [hz])
def strCells (xs : List ByteArray) : List Value := xs.map .string
theorem info_str : (Tryd.prog.info? 9).map (fun i => (i.zero, i.size, i.bytes)) = some (some (.string ⟨#[]⟩), 1, 16) := by kernel_rfl
theorem strs_of_own {w : World} {B e : Nat} {v : Value} {xs : List ByteArray} (h : w.ownsRow B e 1 v xs.length (strCells xs)) : StrsRd w v xs := by
  rcases h.2 with ⟨rfl, h0⟩ | ⟨g, cap, cur, rfl, hB, hg, hc, hm, _⟩
  · obtain rfl : xs = [] := List.eq_nil_of_length_eq_zero h0
    exact ⟨none, 0, rfl, Nat.le_refl _, Nat.zero_le _, fun j x hj => by simp at hj⟩
  · refine ⟨some ⟨g, 0, none⟩, cap, rfl, hc, Nat.le_trans hc hm, fun j x hj => ⟨g, 0, rfl, ?_⟩⟩
    have := World.ownsRow.cells (g := g) h rfl j (.string x) (by simp [strCells, hj])
    have ha : (⟨g, 0, none⟩ : Addr).add j = ⟨g, 0 + j, none⟩ := by unfold Addr.add; split <;> simp_all
    rwa [ha] at this
theorem grown_hold {a b : World} {row : Option Nat} (h : a.grownBy b row) {p : Addr} {u : Value} (hp : a.cell? p = some u) (hr : ∀ k, row = some k → k ≠ p.block) : b.cell? p = some u :=
  (World.cell?_of_block (h.block _ (World.block_lt_of_cell? _ _ hp) (fun e => hr _ e.symm rfl))).trans hp
theorem strCells_snoc (xs : List ByteArray) (x : ByteArray) : strCells (xs ++ [x]) = strCells xs ++ [.string x] := by simp [strCells]
section
variable (w : World)
set_option maxHeartbeats 4000000 in
set_option maxRecDepth 20000 in
theorem fjoin (D : Nat) (a b : VL) (lv : Value) (h : RowRd w D [a, b] lv) (hn : b.kids.length ≤ 1000) (ha : a.text.size ≤ 1000) (hs : ∀ v ∈ b.kids, v.text.size ≤ 1000) :
    Calls Tryd.prog 35 #[lv] w (Told (joinR (weave a.text (b.kids.map VL.text))) w) := by
  obtain ⟨ao, cap, rfl, hat⟩ := h.at
  obtain ⟨g, o, la, rfl, -, c0, c1, c2, c3, hra⟩ := hat 0 a rfl
  obtain ⟨g', o', lb, e', -, d0, d1, d2, d3, hrb⟩ := hat 1 b rfl
  simp only [Option.some.injEq, Addr.mk.injEq, and_true] at e'
  obtain ⟨rfl, rfl⟩ := e'
  simp only [Nat.zero_mul, Nat.add_zero, Nat.one_mul] at c0 c1 c2 c3 d0 d1 d2 d3
  have hg : g < w.heap.size := World.block_lt_of_cell? w _ c0
  have KB := Lib.hid hrb
  have HS := Lib.hid hs
  have HA := Lib.hid ha
  obtain ⟨lbo, lbc, rfl⟩ := hrb.shape
  have C2 := Lib.hid c2
  obtain ⟨i0, hi0, hz0, hz1, hz2⟩ := info_parts info_str
  clear hat hra hrb h hs ha
  have hl1 : (1 : Int) < ((1 : Nat) + 1 : Nat) := by decide
  go_enter Tryd.func35, Tryd.ntmps35
  go_wp2_with fail
  have R := Lib.hid (NBlk.new w 0 0 ⟨#[]⟩)
  have B0 := Lib.hid (show Kept w _ from below_al (Below.refl w.heap.size w) (.cells #[.int .i64 0, .int .i64 0, .string ⟨#[]⟩, .slice none 0 0] 26))
  generalize w.alloc (.cells #[.int .i64 0, .int .i64 0, .string ⟨#[]⟩, .slice none 0 0] 26) = wa at *
  generalize hG : w.heap.size = G at R ⊢
  have HG := Lib.hid hG
  clear hG
  have KC := Lib.hid (KB.out.below B0.out)
  have E2 := Lib.hid (hold B0.out C2.out)
  clear c0 c1 c2 c3 d0 d1 d2 d3 C2
  have HGL := Lib.hid (show g < wa.heap.size from Nat.lt_of_lt_of_le hg (show Below w.heap.size w wa from B0.out).size)
  clear hg
  go_loopg [4, 12] b.kids.length (fun m rv iv wr => ∃ i : Nat, iv = .int .i64 i ∧ b.kids.length - i ≤ m ∧ i ≤ b.kids.length ∧ Below wa.heap.size wa wr ∧ wr.ownsRow wa.heap.size 9 1 rv (weave a.text ((b.kids.map VL.text).take i)).length (strCells (weave a.text ((b.kids.map VL.text).take i))))
  case atStart => exact ⟨0, rfl, Nat.le_refl _, Nat.zero_le _, Below.refl _ _, own_none _ _ _ _⟩
  case round =>
    obtain ⟨i, rfl, hm, hi, hb, ho⟩ := hrel
    obtain ⟨rao, rcap, rfl⟩ := own_len ho
    have HM := Lib.hid hm
    have BR := Lib.hid hb
    have O := Lib.hid ho
    have WL := Lib.hid (weave_len a.text ((b.kids.map VL.text).take i))
    clear hm hb ho
    by_cases hil : i < b.kids.length
    · obtain ⟨u, hu⟩ : ∃ u, b.kids[i]? = some u := ⟨_, List.getElem?_eq_getElem hil⟩
      obtain ⟨ao2, cap2, e2, hat⟩ := (KC.out.below BR.out).at
      simp only [Value.slice.injEq, true_and] at e2
      obtain ⟨rfl, rfl⟩ := e2
      obtain ⟨g2, o2, lu, rfl, -, k0, k1, k2, k3, hr⟩ := hat i u hu
      obtain ⟨lao, lcap, rfl⟩ := hr.shape
      have TK := Lib.hid (show (b.kids.map VL.text).take (i + 1) = (b.kids.map VL.text).take i ++ [u.text] by rw [List.take_add_one, List.getElem?_map, hu]; rfl)
      have WN0 := Lib.hid (show i = 0 → weave a.text ((b.kids.map VL.text).take (i + 1)) = weave a.text ((b.kids.map VL.text).take i) ++ [u.text] from fun e => by
        rw [TK.out, weave_snoc, if_pos (by rw [e]; rfl), e]; rfl)
      have WN1 := Lib.hid (show ¬ i = 0 → weave a.text ((b.kids.map VL.text).take (i + 1)) = (weave a.text ((b.kids.map VL.text).take i) ++ [a.text]) ++ [u.text] from fun e => by
        rw [TK.out, weave_snoc, if_neg (by
          intro h
          have h2 : ((b.kids.map VL.text).take i).length = i := by simp; omega
          rw [h] at h2
          exact e h2.symm)])
      have WLn := Lib.hid (show (weave a.text ((b.kids.map VL.text).take i)).length ≤ 2000 by have := WL.out; simp at this; omega)
      clear hat hu hr TK WL
      have BW := Lib.hid (below_al BR.out (.cells #[.int .i64 u.kind, .int .i64 u.num, .string u.text, .slice lao u.kids.length lcap] 26))
      have X := Lib.hid (VBlk.new wr u (.slice lao u.kids.length lcap))
      have OW := Lib.hid (O.out.alloc (.cells #[.int .i64 u.kind, .int .i64 u.num, .string u.text, .slice lao u.kids.length lcap] 26))
      have OB := Lib.hid (fun k hk => World.ownsRow.lt O.out k hk)
      have NW := Lib.hid (fun x => news_new (wr.alloc (.cells #[.int .i64 u.kind, .int .i64 u.num, .string u.text, .slice lao u.kids.length lcap] 26)) #[.string x] 9)
      rw [show (wr.alloc (.cells #[.int .i64 u.kind, .int .i64 u.num, .string u.text, .slice lao u.kids.length lcap] 26)).heap.size = wr.heap.size + 1 by simp] at NW
      generalize weave a.text ((b.kids.map VL.text).take i) = ws at *
      by_cases h0 : i = 0
      · have hnp : ¬ 0 < i := by omega
        have WT := Lib.hid (WN0.out h0)
        clear h0 WN0 WN1
        go_wp2_with (at_builtin; refine wpList_append_own _ rfl _ _ 57 rfl wa.heap.size 9 i0 _ 1 16 Tryd.underlying57 hi0 hz0 hz1 hz2 rfl (by decide) (.slice rao ws.length rcap) (ws.length) (strCells ws) rfl (OW.out.alloc _) ⟨wr.heap.size + 1, 0, none⟩ 1 1 [.string u.text] rfl rfl ?a1 ?b1 ?c1 ?d1 ?e1 ?_)
        try case a1 => exact NW.out _
        case b1 => simp [Value.oneCell']
        case c1 => have := WLn.out; unfold maxLen; omega
        case d1 => have := WLn.out; omega
        case e1 => have := BR.out.size; simp; omega
        intro v' w6 hown hgrow _
        have BZ := Lib.hid (below_grown BW.out hgrow (fun k hk => (OB.out k hk).1))
        have OZ := Lib.hid (show w6.ownsRow wa.heap.size 9 1 v' (ws ++ [u.text]).length (strCells (ws ++ [u.text])) by rw [strCells_snoc, List.length_append]; exact hown)
        clear hown hgrow
        go_wp2_with fail
        go_roundg (b.kids.length - (i + 1))
        case rel => exact ⟨i + 1, rfl, Nat.le_refl _, hil, BZ.out, by rw [WT.out]; exact OZ.out⟩
        case measure => have := HM.out; omega
      · have hpos : 0 < i := by omega
        have WT := Lib.hid (WN1.out h0)
        clear h0 WN0 WN1
        have a2 := hold BR.out E2.out
        have hgl : g < wr.heap.size := Nat.lt_of_lt_of_le HGL.out BR.out.size
        go_wp2_with (at_builtin; refine wpList_append_own _ rfl _ _ 57 rfl wa.heap.size 9 i0 _ 1 16 Tryd.underlying57 hi0 hz0 hz1 hz2 rfl (by decide) (.slice rao ws.length rcap) (ws.length) (strCells ws) rfl (OW.out.alloc _) ⟨wr.heap.size + 1, 0, none⟩ 1 1 [.string a.text] rfl rfl ?a2 ?b2 ?c2 ?d2 ?e2 ?_)
        try case a2 => exact NW.out _
        case b2 => simp [Value.oneCell']
        case c2 => have := WLn.out; unfold maxLen; omega
        case d2 => have := WLn.out; omega
        case e2 => have := BR.out.size; simp; omega
        intro v' w6 hown hgrow _
        have BZ := Lib.hid (below_grown BW.out hgrow (fun k hk => (OB.out k hk).1))
        have OZ := Lib.hid (show w6.ownsRow wa.heap.size 9 1 v' (ws ++ [a.text]).length (strCells (ws ++ [a.text])) by rw [strCells_snoc, List.length_append]; exact hown)
        have hx := (X.out.cells).2.2.1
        have hx1 := hold (below_al (Below.refl _ _) (.cells #[.string a.text] 9)) hx
        have x2 := grown_hold hgrow hx1 (fun k hk e => by have := (OB.out k hk).2; simp at e; omega)
        have xl := World.block_lt_of_cell? _ _ x2
        simp only at xl
        obtain ⟨vao, vcap, rfl⟩ := own_len OZ.out
        have WL2 := Lib.hid (show (ws ++ [a.text]).length ≤ 2001 by have := WLn.out; simp; omega)
        have OB2 := Lib.hid (fun k hk => World.ownsRow.lt OZ.out k hk)
        have NW2 := Lib.hid (news_new w6 #[.string u.text] 9)
        clear hown hgrow hx hx1 a2 hgl WLn
        generalize ws ++ [a.text] = ws2 at *
        have WLn := WL2
        go_wp2_with (at_builtin; refine wpList_append_own _ rfl _ _ 57 rfl wa.heap.size 9 i0 _ 1 16 Tryd.underlying57 hi0 hz0 hz1 hz2 rfl (by decide) (.slice vao ws2.length vcap) (ws2.length) (strCells ws2) rfl (OZ.out.alloc _) ⟨w6.heap.size, 0, none⟩ 1 1 [.string u.text] rfl rfl ?a3 ?b3 ?c3 ?d3 ?e3 ?_)
        try case a3 => exact NW2.out
        case b3 => simp [Value.oneCell']
        case c3 => have := WLn.out; unfold maxLen; omega
        case d3 => have := WLn.out; omega
        case e3 => have := BZ.out.size; simp; omega
        intro v' w7 hown hgrow _
        have BY := Lib.hid (below_grown BZ.out hgrow (fun k hk => (OB2.out k hk).1))
        have OY := Lib.hid (show w7.ownsRow wa.heap.size 9 1 v' (ws2 ++ [u.text]).length (strCells (ws2 ++ [u.text])) by rw [strCells_snoc, List.length_append]; exact hown)
        clear hown hgrow x2 xl
        go_wp2_with fail
        go_roundg (b.kids.length - (i + 1))
        case rel => exact ⟨i + 1, rfl, Nat.le_refl _, hil, BY.out, by rw [WT.out]; exact OY.out⟩
        case measure => have := HM.out; omega
    · have e : i = b.kids.length := by omega
      have te : (b.kids.map VL.text).take i = b.kids.map VL.text := List.take_of_length_le (by simp; omega)
      rw [te] at O WL
      have SR := Lib.hid (strs_of_own O.out)
      have JJ := Lib.hid (fun W (hw : Below wr.heap.size wr W) => vjoin W _ (weave a.text (b.kids.map VL.text)) (SR.out.below hw) (fun x hx => by
        have := weave_mem HA.out (fun y hy => by obtain ⟨v, hv, rfl⟩ := List.mem_map.1 hy; exact HS.out v hv) x hx
        omega) (by have := WL.out; simp at this; omega))
      rw [te]
      generalize weave a.text (b.kids.map VL.text) = ws at *
      clear te e
      go_wp2_with fail
      refine (JJ.out _ (Below.refl _ _)).mono ?_
      rintro e w2 ⟨rfl, hb2⟩
      obtain ⟨⟨r0, r1, r2, r3, rl⟩, f0, f1, f2, f3⟩ := ((R.out.below BR.out).below hb2).full
      have B2 := Lib.hid (below_tr (below_tr B0.out BR.out) hb2)
      clear hb2
      go_wp2_with fail
      exact bodyPost_ret (v := .tuple #[.agg #[.int .i64 (joinR ws).1.kind, .int .i64 (joinR ws).1.num, .string (joinR ws).1.text, .slice none 0 0], .int .i64 (joinR ws).2]) (by simp [results, Tryd.results35, go_sem, r0, r1, r2, r3]) rfl ⟨rfl, below_set4 B2.out (by have := HG.out; omega) _ _ _ _⟩
end
end Go.Proofs.YtoaachefdbepiaaDoor
