/- The document's Lex, as a walk. -/
import Derived.Test.YtedcdibabdamcaaDoorLexS
namespace Go.Proofs.YtedcdibabdamcaaDoor
open Go.RowKit
set_option linter.unusedVariables false
set_option linter.unusedSimpArgs false

/-- The result's own block. -/
def ResBlk (w : World) (g : Nat) (a c : Value) : Prop := w.heap[g]? = some (.cells #[a, c] 28 (0, 0))
theorem ResBlk.lt {w : World} {g : Nat} {a c : Value} (h : ResBlk w g a c) : g < w.heap.size := (Array.getElem?_eq_some_iff.1 h).1
theorem ResBlk.new (w : World) (a c : Value) : ResBlk (w.alloc (.cells #[a, c] 28)) w.heap.size a c := heap_alloc_new w _
theorem ResBlk.cells {w : World} {g : Nat} {a c : Value} (h : ResBlk w g a c) : w.cell? ⟨g, 0, none⟩ = some a ∧ w.cell? ⟨g, 1, none⟩ = some c := by
  have h : w.heap[g]? = some (.cells #[a, c] 28 (0, 0)) := h
  exact ⟨cell_of_row w g 0 _ _ _ h, cell_of_row w g 1 _ _ _ h⟩
theorem ResBlk.free {w : World} {g : Nat} {a c : Value} (h : ResBlk w g a c) (o : Nat) : w.frozen? ⟨g, o, none⟩ = false := by
  have h : w.heap[g]? = some (.cells #[a, c] 28 (0, 0)) := h
  simp [World.frozen?, h]
theorem ResBlk.below {w w' : World} {B g : Nat} {a c : Value} (h : ResBlk w g a c) (ha : Below B w w') (hg : g < B) : ResBlk w' g a c := (ha.block g hg).trans h

/-- The walk's state: where it stands, what it has. -/
structure RLexSt (s : ByteArray) (w : World) (i : Nat) (lv : Value) (ts : List TokL) (wr : World) : Prop where
  bel : Below w.heap.size w wr
  own : ∃ xs, wr.ownsRow (w.heap.size + 1) 36 5 lv ts.length xs ∧ TokRow wr (w.heap.size + 1) ts xs
  few : ts.length ≤ i
  le : i ≤ s.size
  res : ResBlk wr w.heap.size (.slice none 0 0) (.int .i64 0)
def RLexRel (s : ByteArray) (w : World) (m : Nat) (lv iv : Value) (wr : World) : Prop :=
  ∃ i ts, iv = .int .i64 (i : Nat) ∧ s.size - i ≤ m ∧ lexTo s (skipTo s i) ts = lexTo s (skipTo s 0) [] ∧ RLexSt s w i lv ts wr
theorem RLexSt.to {s : ByteArray} {w wr : World} {i j : Nat} {lv : Value} {ts : List TokL} (h : RLexSt s w i lv ts wr) (hj : i ≤ j) (hs : j ≤ s.size) : RLexSt s w j lv ts wr :=
  ⟨h.bel, h.own, Nat.le_trans h.few hj, hs, h.res⟩
def setRes (w : World) (B : Nat) (a c : Value) : World := (w.setCell ⟨B, 0, none⟩ a).setCell ⟨B, 1, none⟩ c
theorem ResBlk.set0 {w : World} {g : Nat} {a c : Value} (h : ResBlk w g a c) (v : Value) : ResBlk (w.setCell ⟨g, 0, none⟩ v) g v c := heap_setCell_same w g 0 _ _ v h
theorem ResBlk.set1 {w : World} {g : Nat} {a c : Value} (h : ResBlk w g a c) (v : Value) : ResBlk (w.setCell ⟨g, 1, none⟩ v) g a v := heap_setCell_same w g 1 _ _ v h
theorem res_ret {w wr : World} {a c : Value} (T : ResBlk wr w.heap.size a c) (H : Below w.heap.size w wr) (v0 v1 : Value) :
    ResBlk (setRes wr w.heap.size v0 v1) w.heap.size v0 v1 ∧ Below w.heap.size w (setRes wr w.heap.size v0 v1) := by
  refine ⟨(T.set0 v0).set1 v1, ?_⟩
  exact Below.setCell (p := ⟨w.heap.size, 1, none⟩) (Below.setCell (p := ⟨w.heap.size, 0, none⟩) H (Nat.le_refl _) _) (Nat.le_refl _) _
theorem ResBlk.alloc {w : World} {g : Nat} {a c : Value} (h : ResBlk w g a c) (O : Obj) : ResBlk (w.alloc O) g a c := (Below.heap_alloc w O g h.lt).trans h
/-- What the document's Lex leaves. -/
def RLexPost (s : ByteArray) (w : World) (e : Ending) (w' : World) : Prop :=
  ∃ v, e = .returned (.agg #[v, .int .i64 (lexE s)]) ∧ Below w.heap.size w w' ∧ ToksRd w' v (lexT s)
theorem lexE_none {s : ByteArray} (h6 : ¬ 6000 < s.size) (h : none = lexTo s (skipTo s 0) []) : lexE s = 5 ∧ lexT s = [] := by
  unfold lexE lexT; rw [if_neg h6, if_neg h6, ← h]; exact ⟨rfl, rfl⟩
theorem lexE_some {s : ByteArray} {ts : List TokL} (h6 : ¬ 6000 < s.size) (h : some ts = lexTo s (skipTo s 0) []) : lexE s = 0 ∧ lexT s = ts ++ [⟨0, ⟨#[]⟩, 0, [], s.size⟩] := by
  unfold lexE lexT; rw [if_neg h6, if_neg h6, ← h]; exact ⟨rfl, rfl⟩
theorem rlex_step {s : ByteArray} {w wr W2 w6 : World} {i k' : Nat} {lv v' pv : Value} {ts : List TokL} {t : TokL} {xs : List Value} {O : Obj} (ST : RLexSt s w i lv ts wr) (B2 : Below wr.heap.size wr W2) (P : PartsOwn W2 wr.heap.size pv t.parts)
    (hl : wr.ownsRow (w.heap.size + 1) 36 5 lv ts.length xs) (hr : TokRow wr (w.heap.size + 1) ts xs)
    (ho : w6.ownsRow (w.heap.size + 1) 36 5 v' (ts.length + 1) (xs ++ tokCells t pv)) (hg : (W2.alloc O).grownBy w6 lv.ownBlock) (h1 : i < k') (h2 : k' ≤ s.size) : RLexSt s w k' v' (ts ++ [t]) w6 := by
  have G := grown_trans (World.grownBy_alloc W2 O lv.ownBlock) hg
  have hl2 := own_below hl B2
  have hrow : ∀ k, lv.ownBlock = some k → w.heap.size + 1 ≤ k := fun k hk => (World.ownsRow.lt hl k hk).1
  have lt := ST.res.lt
  have keep : ∀ v ps, PartsOwn W2 (w.heap.size + 1) v ps → PartsOwn w6 (w.heap.size + 1) v ps := fun v ps hp => World.ownsRow.kept hp G (own_apart hp hl2 (by decide))
  refine ⟨Below.grown (ST.bel.trans (B2.mono (Nat.le_of_lt lt))) G (Nat.le_trans (Nat.le_of_lt lt) B2.size) (fun k hk => Nat.le_of_succ_le (hrow k hk)), ⟨xs ++ tokCells t pv, by rw [List.length_append]; exact ho, ?_⟩, by have := ST.few; simp; omega, h2, ?_⟩
  · exact TokRow.snoc (TokRow.kept keep (TokRow.kept (fun v ps hp => own_below hp B2) hr)) (keep _ _ (own_base P lt))
  · have h : ResBlk W2 w.heap.size (.slice none 0 0) (.int .i64 0) := ST.res.below B2 lt
    exact (G.block w.heap.size h.lt (fun e => by have := hrow _ e.symm; omega)).trans h
theorem rlex_fin {s : ByteArray} {w wr w6 : World} {i : Nat} {lv v' : Value} {ts : List TokL} {t : TokL} {xs : List Value} {O : Obj} (ST : RLexSt s w i lv ts wr) (ht : t.parts = [])
    (hl : wr.ownsRow (w.heap.size + 1) 36 5 lv ts.length xs) (hr : TokRow wr (w.heap.size + 1) ts xs)
    (ho : w6.ownsRow (w.heap.size + 1) 36 5 v' (ts.length + 1) (xs ++ tokCells t (.slice none 0 0))) (hg : (wr.alloc O).grownBy w6 lv.ownBlock) :
    ResBlk w6 w.heap.size (.slice none 0 0) (.int .i64 0) ∧ Below w.heap.size w w6 ∧ ∀ a c, ToksRd (setRes w6 w.heap.size a c) v' (ts ++ [t]) := by
  have G := grown_trans (World.grownBy_alloc wr O lv.ownBlock) hg
  have hrow : ∀ k, lv.ownBlock = some k → w.heap.size + 1 ≤ k := fun k hk => (World.ownsRow.lt hl k hk).1
  have lt := ST.res.lt
  have keep : ∀ v ps, PartsOwn wr (w.heap.size + 1) v ps → PartsOwn w6 (w.heap.size + 1) v ps := fun v ps hp => World.ownsRow.kept hp G (own_apart hp hl (by decide))
  have l := Nat.lt_succ_self w.heap.size
  refine ⟨(G.block w.heap.size lt (fun e => by have := hrow _ e.symm; omega)).trans ST.res, Below.grown ST.bel G (Nat.le_of_lt lt) (fun k hk => Nat.le_of_succ_le (hrow k hk)), fun a c => ?_⟩
  have row : TokRow w6 (w.heap.size + 1) (ts ++ [t]) (xs ++ tokCells t (.slice none 0 0)) := TokRow.snoc (TokRow.kept keep hr) (by rw [ht]; exact World.ownsRow_nil _ _ _ _)
  refine ⟨xs ++ tokCells t (.slice none 0 0), ?_, ?_⟩
  · rw [List.length_append]
    exact Rds.of_own (own_set (p := ⟨w.heap.size, 1, none⟩) (own_set (p := ⟨w.heap.size, 0, none⟩) ho l a) l c)
  · exact TokRd.of_row (TokRow.kept (fun v ps hp => own_set (p := ⟨w.heap.size, 1, none⟩) (own_set (p := ⟨w.heap.size, 0, none⟩) hp l a) l c) row)
section
variable (s : ByteArray) (w : World)
set_option maxHeartbeats 20000000 in
set_option maxRecDepth 20000 in
theorem rlex_any (hs : s.size ≤ maxLen) :
    Calls Tryd.prog 11 #[.string s] w (RLexPost s w) := by
  have HL := Lib.hid hs
  unfold maxLen at hs
  by_cases h6 : 6000 < s.size
  · have e1 : lexE s = 4 := by simp [lexE, h6]
    have e2 : lexT s = [] := by simp [lexT, h6]
    have E1 := Lib.hid e1
    have E2 := Lib.hid e2
    clear e1 e2
    go_enter Tryd.func11, Tryd.ntmps11
    go_wp2_with fail
    refine bodyPost_ret (v := .agg #[.slice none 0 0, .int .i64 4]) (by simp [results, Tryd.results11, go_sem]) rfl ?_
    exact ⟨.slice none 0 0, by rw [E1.out], (Below.refl _ _).alloc (Nat.le_refl _) _, by rw [E2.out]; exact ⟨[], ⟨none, 0, rfl, fun j u h => by simp at h⟩, rfl⟩⟩
  · have H6 := Lib.hid h6
    have HS6 := Lib.hid (show s.size ≤ 6000 by omega)
    have hs6 : s.size ≤ 6000 := HS6.out
    clear hs
    go_enter Tryd.func11, Tryd.ntmps11
    go_wp2_with fail
    go_loopg [3, 4] s.size (fun m lv iv wr => RLexRel s w m lv iv wr)
    case atStart => exact ⟨0, [], rfl, Nat.le_refl _, rfl, (Below.refl _ _).alloc (Nat.le_refl _) _, ⟨[], World.ownsRow_nil _ _ _ _, rfl⟩, Nat.le_refl _, Nat.zero_le _, ResBlk.new w _ _⟩
    case round =>
      obtain ⟨i, ts, rfl, hm, he, hst⟩ := hrel
      have HM := Lib.hid hm
      have HE := Lib.hid he
      have ST := Lib.hid hst
      clear hm he hst
      have hil := ST.out.le
      by_cases hi : i < s.size
      · have hp := pk_in hi
        have q1 := pk_lo s i
        have q2 := pk_hi s i
        rw [hp] at q1 q2
        have HI := Lib.hid (show i < s.size ∧ True from ⟨hi, trivial⟩)
        by_cases c1 : (s[i].toNat : Int) = 32
        · have SB := Lib.hid (skipTo_blank hi (by rw [hp]; exact .inl c1))
          have g1 : ((s[i].toNat : Int) == 32) = true := by simpa using c1
          clear c1 hp
          go_wp2_with fail
          go_roundg (s.size - (i + 1))
          case rel => exact ⟨i + 1, ts, rfl, Nat.le_refl _, by rw [← SB.out]; exact HE.out, ST.out.to (Nat.le_succ _) HI.out.1⟩
          case measure => have := HM.out; have := HI.out.1; omega
        have g1 : ((s[i].toNat : Int) == 32) = false := by simpa using c1
        by_cases c2 : (s[i].toNat : Int) = 10
        · have SB := Lib.hid (skipTo_blank hi (by rw [hp]; exact .inr c2))
          have g2 : ((s[i].toNat : Int) == 10) = true := by simpa using c2
          clear c1 c2 hp
          go_wp2_with fail
          go_roundg (s.size - (i + 1))
          case rel => exact ⟨i + 1, ts, rfl, Nat.le_refl _, by rw [← SB.out]; exact HE.out, ST.out.to (Nat.le_succ _) HI.out.1⟩
          case measure => have := HM.out; have := HI.out.1; omega
        have g2 : ((s[i].toNat : Int) == 10) = false := by simpa using c2
        by_cases c3 : (s[i].toNat : Int) = 35
        · have SB := Lib.hid (skipTo_line hi (by rw [hp]; exact c3))
          have RG := Lib.hid (runTo_gt (p := inLineB) hi (by rw [hp, c3]; decide))
          have g3 : ((s[i].toNat : Int) == 35) = true := by simpa using c3
          clear c1 c2 c3 hp
          go_wp2_with fail
          go_loop [4] (fun v => ∃ j : Nat, v = .int .i64 j ∧ i ≤ j ∧ j ≤ s.size ∧ Hid (runTo inLineB s j = runTo inLineB s i)) (fun v => s.size - (intOf v).toNat)
          case atStart => exact ⟨i, rfl, Nat.le_refl _, hil, rfl⟩
          case round =>
            obtain ⟨j, rfl, hij, hjs, HR⟩ := hrel
            by_cases hj : j < s.size
            · have hpj := pk_in hj
              by_cases c4 : (s[j].toNat : Int) = 10
              · have RS := Lib.hid (show runTo inLineB s i = j by rw [← HR.out]; exact runTo_stop (fun _ => by rw [hpj, c4]; decide))
                have g4 : ((s[j].toNat : Int) != 10) = false := by simpa using c4
                clear c4 hpj
                go_wp2_with fail
                go_roundg (s.size - j)
                case rel => exact ⟨j, ts, rfl, Nat.le_refl _, by rw [← HE.out, SB.out, RS.out], ST.out.to hij hjs⟩
                case measure => have := HM.out; have := HI.out.1; have := RG.out; rw [RS.out] at this; omega
              · have RS := Lib.hid ((runTo_step (p := inLineB) hj (by rw [hpj]; simpa [inLineB] using c4)).symm.trans HR.out)
                have g4 : ((s[j].toNat : Int) != 10) = true := by simpa using c4
                clear c4 hpj
                go_wp2_with fail
                go_round
                case rel => exact ⟨j + 1, by go_num, by omega, hj, RS⟩
                case measure => simp [intOf]; omega
            · have RS := Lib.hid (show runTo inLineB s i = j by rw [← HR.out]; exact runTo_stop (fun h => absurd h hj))
              go_wp2_with fail
              go_roundg (s.size - j)
              case rel => exact ⟨j, ts, rfl, Nat.le_refl _, by rw [← HE.out, SB.out, RS.out], ST.out.to hij hjs⟩
              case measure => have := HM.out; have := HI.out.1; have := RG.out; rw [RS.out] at this; omega
        have g3 : ((s[i].toNat : Int) == 35) = false := by simpa using c3
        have SK := Lib.hid (skipTo_stop hi (by rw [hp]; exact c1) (by rw [hp]; exact c2) (by rw [hp]; exact c3))
        clear c1 c2 c3 hp
        cases ht : tokAt s i with
        | none =>
          have LN := Lib.hid ((lexTo_none (ts := ts) hi ht).symm.trans ((SK.out ▸ HE.out : lexTo s i ts = _)))
          have NP := Lib.hid (show ∀ W e W', RTokPost i (tokAt s i) W e W' → ∃ (x y : Int) (tx : ByteArray), e = .returned (.tuple #[.agg #[.int .i64 x, .string tx, .int .i64 0, .slice none 0 0, .int .i64 y], .int .i64 0]) ∧ Below W.heap.size W W' from fun W e W' h => by rw [ht] at h; exact h)
          clear ht
          go_wp2_with fail
          refine (rtoken_any s _ i _ (by rfl) HS6.out HI.out.1).mono ?_
          intro e w1 hpost
          obtain ⟨x, y, tx, rfl, hb1⟩ := NP.out _ _ _ hpost
          have B1 := Lib.hid (ST.out.bel.trans (hb1.mono (Nat.le_of_lt ST.out.res.lt)))
          have R1 := Lib.hid (ST.out.res.below hb1 ST.out.res.lt)
          have lt1 := R1.out.lt
          obtain ⟨r0, r1⟩ := R1.out.cells
          have rf := fun o => R1.out.free o
          clear hpost hb1
          go_wp2_with fail
          obtain ⟨z, zb⟩ := res_ret R1.out B1.out (.slice none 0 0) (.int .i64 5)
          show bodyPost _ _ _ _ _ ((setRes w1 w.heap.size (.slice none 0 0) (.int .i64 5)).alloc _)
          generalize setRes w1 w.heap.size (.slice none 0 0) (.int .i64 5) = W at *
          obtain ⟨z0, z1⟩ := z.cells
          have zl := z.lt
          refine bodyPost_ret (v := .agg #[.slice none 0 0, .int .i64 5]) (by simp [results, Tryd.results11, go_sem, z0, z1, zl]) rfl ?_
          obtain ⟨l1, l2⟩ := lexE_none H6.out LN.out
          exact ⟨.slice none 0 0, by rw [l1], zb.alloc zb.size _, by rw [l2]; exact ⟨[], ⟨none, 0, rfl, fun j u h => by simp at h⟩, rfl⟩⟩
        | some tk =>
          obtain ⟨t, k'⟩ := tk
          have LN := Lib.hid ((lexTo_step (ts := ts) hi ht).symm.trans ((SK.out ▸ HE.out : lexTo s i ts = _)))
          have NP := Lib.hid (show ∀ W e W', RTokPost i (tokAt s i) W e W' → ∃ pv, e = .returned (.tuple #[.agg #[.int .i64 t.kind, .string t.text, .int .i64 t.num, pv, .int .i64 t.at_], .int .i64 ((k' : Int) - i)]) ∧ Below W.heap.size W W' ∧ PartsOwn W' W.heap.size pv t.parts from fun W e W' h => by rw [ht] at h; exact h)
          have KG := Lib.hid (tokAt_gt hi ht)
          have kgt : i < k' := KG.out.1
          have kle : k' ≤ s.size := KG.out.2
          have g0 : ((k' : Int) - i == 0) = false := by simp; omega
          clear ht
          go_wp2_with fail
          refine (rtoken_any s _ i _ (by rfl) HS6.out HI.out.1).mono ?_
          intro e w1 hpost
          obtain ⟨pv, rfl, hb1, hp1⟩ := NP.out _ _ _ hpost
          obtain ⟨pao, pn, pcap, rfl⟩ := own_slice hp1
          have BW := Lib.hid hb1
          have P1 := Lib.hid hp1
          have SK2 := Lib.hid (skipTo_ok KG.out.2)
          have Z := Lib.hid (show (w1.alloc (.cells #[.int .i64 t.kind, .string t.text, .int .i64 t.num, .slice pao pn pcap, .int .i64 t.at_] 36)).heap.size = w1.heap.size + 1 by simp)
          have B2 := Lib.hid (show Below wr.heap.size wr (w1.alloc (.cells #[.int .i64 t.kind, .string t.text, .int .i64 t.num, .slice pao pn pcap, .int .i64 t.at_] 36)) from hb1.alloc hb1.size _)
          have P2 := Lib.hid (show PartsOwn (w1.alloc (.cells #[.int .i64 t.kind, .string t.text, .int .i64 t.num, .slice pao pn pcap, .int .i64 t.at_] 36)) wr.heap.size (.slice pao pn pcap) t.parts from World.ownsRow.alloc hp1 _)
          obtain ⟨xs, hxs, hrw⟩ := ST.out.own
          have XS := Lib.hid hxs
          have RW := Lib.hid hrw
          have FEW := Lib.hid (show ts.length ≤ 6000 by have := ST.out.few; omega)
          have XS2 := Lib.hid (own_below hxs B2.out)
          have LT := Lib.hid (show w.heap.size + 1 ≤ w1.heap.size by have := ST.out.res.lt; have := hb1.size; omega)
          clear hpost hb1 hp1 hxs hrw
          obtain ⟨i0, hi0, hz0, hz1, hz2⟩ := info_parts info_tok
          go_wp2_with (at_builtin; refine wpList_append_own _ rfl _ _ 23 rfl (w.heap.size + 1) 36 i0 _ 5 64 Tryd.underlying23 hi0 hz0 hz1 hz2 rfl (by decide) u3 ts.length xs rfl (World.ownsRow.alloc XS2.out _) ⟨w1.heap.size + 1, 0, none⟩ 1 1 [.int .i64 t.kind, .string t.text, .int .i64 t.num, .slice pao pn pcap, .int .i64 t.at_] rfl rfl ?c1 ?c2 ?c3 ?c4 ?c5 ?_)
          try case c1 => rw [← Z.out]; exact news_new _ #[.int .i64 t.kind, .string t.text, .int .i64 t.num, .slice pao pn pcap, .int .i64 t.at_] 36
          try case c2 => simp [Value.oneCell']
          try case c3 => have := FEW.out; unfold maxLen; omega
          try case c4 => have := FEW.out; omega
          try case c5 => have := LT.out; simp; omega
          intro v' w6 hown' hgrow _
          have S6 := Lib.hid ((rlex_step ST.out B2.out P2.out XS.out RW.out hown' hgrow KG.out.1 KG.out.2))
          clear hown' hgrow
          go_wp2
          go_roundg (s.size - k')
          case rel => exact ⟨k', ts ++ [t], by congr 1; omega, Nat.le_refl _, LN.out, S6.out⟩
          case measure => have := HM.out; have := HI.out.1; have := KG.out.1; omega
      · have LN := Lib.hid ((lexTo_end (ts := ts) (s := s) (j := skipTo s i) (by rw [skipTo_end hi]; exact hi)).symm.trans HE.out)
        obtain ⟨xs, hxs, hrw⟩ := ST.out.own
        have XS := Lib.hid hxs
        have RW := Lib.hid hrw
        have FEW := Lib.hid (show ts.length ≤ 6000 by have := ST.out.few; omega)
        have LT := Lib.hid ST.out.res.lt
        clear hxs hrw
        obtain ⟨i0, hi0, hz0, hz1, hz2⟩ := info_parts info_tok
        go_wp2_with (at_builtin; refine wpList_append_own _ rfl _ _ 23 rfl (w.heap.size + 1) 36 i0 _ 5 64 Tryd.underlying23 hi0 hz0 hz1 hz2 rfl (by decide) u3 ts.length xs rfl (World.ownsRow.alloc XS.out _) ⟨wr.heap.size, 0, none⟩ 1 1 [.int .i64 0, .string ⟨#[]⟩, .int .i64 0, .slice none 0 0, .int .i64 s.size] rfl rfl ?d1 ?d2 ?d3 ?d4 ?d5 ?_)
        try case d1 => exact news_new wr #[.int .i64 0, .string ⟨#[]⟩, .int .i64 0, .slice none 0 0, .int .i64 s.size] 36
        try case d2 => simp [Value.oneCell']
        try case d3 => have := FEW.out; unfold maxLen; omega
        try case d4 => have := FEW.out; omega
        try case d5 => have := LT.out; simp; omega
        intro v' w6 hown' hgrow _
        obtain ⟨f1, f2, f3⟩ := rlex_fin (t := ⟨0, ⟨#[]⟩, 0, [], s.size⟩) ST.out rfl XS.out RW.out hown' hgrow
        obtain ⟨vao, vn, vcap, rfl⟩ := own_slice hown'
        have F1 := Lib.hid f1
        have F2 := Lib.hid f2
        have F3 := Lib.hid f3
        obtain ⟨r0, r1⟩ := f1.cells
        have rf := fun o => F1.out.free o
        clear hown' hgrow f1 f2 f3
        go_wp2_with fail
        obtain ⟨z, zb⟩ := res_ret F1.out F2.out (.slice vao vn vcap) (.int .i64 0)
        have zt := F3.out (.slice vao vn vcap) (.int .i64 0)
        show bodyPost _ _ _ _ _ (setRes w6 w.heap.size (.slice vao vn vcap) (.int .i64 0))
        generalize setRes w6 w.heap.size (.slice vao vn vcap) (.int .i64 0) = W at *
        obtain ⟨z0, z1⟩ := z.cells
        refine bodyPost_ret (v := .agg #[.slice vao vn vcap, .int .i64 0]) (by simp [results, Tryd.results11, go_sem, z0, z1]) rfl ?_
        obtain ⟨l1, l2⟩ := lexE_some H6.out LN.out
        exact ⟨_, by rw [l1], zb, by rw [l2]; exact zt⟩
end
end Go.Proofs.YtedcdibabdamcaaDoor
