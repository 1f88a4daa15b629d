/- The contract of lex.Lex: for every text the tokens, or the error, that lexL tells; of what was there nothing turns. -/
import Derived.Test.YtlkdicabmikhkaaGreatDoorLexG
namespace Go.Proofs.YtlkdicabmikhkaaGreatDoor
open Go.RowKit
set_option linter.unusedVariables false
set_option linter.unusedSimpArgs false

theorem skipAt_ok (s : ByteArray) : ∀ n k, k ≤ s.size → k ≤ skipAt s n k ∧ skipAt s n k ≤ s.size := by
  intro n
  induction n with
  | zero => intro k h; simp [skipAt, h]
  | succ n ih =>
    intro k h
    rw [skipAt]
    split
    · rename_i hk
      split
      · have := ih (k + 1) (by omega); omega
      · split
        · have h1 := le_runTo inLineB s k
          have h2 := runTo_le (p := inLineB) h
          have := ih _ h2; omega
        · omega
    · omega
theorem skipTo_ok {s : ByteArray} {k : Nat} (h : k ≤ s.size) : k ≤ skipTo s k ∧ skipTo s k ≤ s.size := skipAt_ok s _ k h
theorem tokAt_gt {s : ByteArray} {k : Nat} (hk : k < s.size) {t : TokL} {k' : Nat} (h : tokAt s k = some (t, k')) : k < k' ∧ k' ≤ s.size := by
  unfold tokAt at h
  split at h
  · rename_i hs
    split at h
    · simp at h
      have := nameTo_gt hk hs
      have := nameTo_le (Nat.le_of_lt hk)
      omega
    · simp at h
  · split at h
    · rename_i hd
      split at h
      · simp at h
        have := runTo_gt hk hd
        have := runTo_le (p := digitB) (Nat.le_of_lt hk)
        omega
      · simp at h
    · split at h
      · split at h
        · rename_i hp
          simp at h
          have := partsTo_gt hp
          omega
        · simp at h
      · split at h
        · simp at h
          have := signTo_ok hk
          omega
        · simp at h
/-- The tokens from a place on at which neither a blank nor a remark stands. -/
def lexAt (s : ByteArray) : Nat → Nat → List TokL → Option (List TokL)
  | 0, _, ts => some ts
  | n + 1, j, ts => if j < s.size then (match tokAt s j with | some (t, k') => lexAt s n (skipTo s k') (ts ++ [t]) | none => none) else some ts
theorem lexAt_more (s : ByteArray) : ∀ n m j ts, s.size - j ≤ n → s.size - j ≤ m → lexAt s n j ts = lexAt s m j ts := by
  intro n
  induction n with
  | zero =>
    intro m j ts h1 h2
    have hj : ¬ j < s.size := by omega
    cases m <;> simp [lexAt, hj]
  | succ n ih =>
    intro m j ts h1 h2
    by_cases hj : j < s.size
    · obtain ⟨m, rfl⟩ : ∃ m', m = m' + 1 := ⟨m - 1, by omega⟩
      simp only [lexAt, hj, if_true]
      cases ht : tokAt s j with
      | none => rfl
      | some tk =>
        obtain ⟨t, k'⟩ := tk
        have h3 := tokAt_gt hj ht
        have h4 := skipTo_ok h3.2
        exact ih m _ _ (by omega) (by omega)
    · cases m <;> simp [lexAt, hj]
def lexTo (s : ByteArray) (j : Nat) (ts : List TokL) : Option (List TokL) := lexAt s s.size j ts
theorem lexTo_end {s : ByteArray} {j : Nat} {ts : List TokL} (h : ¬ j < s.size) : lexTo s j ts = some ts := by
  unfold lexTo; cases s.size <;> simp [lexAt, h]
theorem lexTo_step {s : ByteArray} {j : Nat} {ts : List TokL} (h : j < s.size) {t : TokL} {k' : Nat} (ht : tokAt s j = some (t, k')) : lexTo s j ts = lexTo s (skipTo s k') (ts ++ [t]) := by
  unfold lexTo
  rw [lexAt_more s s.size (s.size + 1) j ts (by omega) (by omega), lexAt, if_pos h, ht]
theorem lexTo_none {s : ByteArray} {j : Nat} {ts : List TokL} (h : j < s.size) (ht : tokAt s j = none) : lexTo s j ts = none := by
  unfold lexTo
  rw [lexAt_more s s.size (s.size + 1) j ts (by omega) (by omega), lexAt, if_pos h, ht]
/-- Lex: its error, its tokens. -/
def lexE (s : ByteArray) : Int := if 6000 < s.size then 4 else match lexTo s (skipTo s 0) [] with | some _ => 0 | none => 5
def lexT (s : ByteArray) : List TokL := if 6000 < s.size then [] else match lexTo s (skipTo s 0) [] with | some ts => ts ++ [⟨0, ⟨#[]⟩, 0, [], s.size⟩] | none => []

theorem LexSt.adv {w w' : World} {b k k' : Nat} {s : ByteArray} {tv : Value} {ts : List TokL} {xs : List Value} (h : LexSt w b s k tv ts xs) (ha : Adv b w w') (hr : Rd w' b s k') (h1 : k ≤ k') (h2 : k' ≤ s.size) : LexSt w' b s k' tv ts xs :=
  ⟨hr, (ha.cell 2 (by omega)).trans h.tok, (ha.frozen 2).trans h.free, own_adv h.own ha (Nat.lt_succ_self b), TokRow.kept (fun v ps hp => own_adv hp ha (Nat.lt_succ_self b)) h.row, Nat.le_trans h.few h1, h2⟩
theorem LexSt.drewN {w : World} {b k : Nat} {s : ByteArray} {tv : Value} {ts : List TokL} {xs : List Value} (h : LexSt w b s k tv ts xs) (n : Nat) : LexSt (w.drewN n) b s k tv ts xs :=
  h.adv (Adv.drawn b w n) (h.rd.drewN n) (Nat.le_refl _) h.le

theorem TokRow.turn {w w' : World} {B B' : Nat} (hk : ∀ v ps, PartsOwn w B v ps → PartsOwn w' B' v ps) : ∀ {ts : List TokL} {xs : List Value}, TokRow w B ts xs → TokRow w' B' ts xs := by
  intro ts
  induction ts with
  | nil => intro xs h; exact h
  | cons a ts ih => intro xs h; obtain ⟨av, rest, rfl, ha, hr⟩ := h; exact ⟨av, rest, rfl, hk _ _ ha, ih hr⟩
theorem lex_done {w wr w6 : World} {s : ByteArray} {j : Nat} {tv v' : Value} {ts : List TokL} {xs : List Value} {O : Obj} (H : LexSt wr w.heap.size s j tv ts xs) (HB : Below w.heap.size w wr) (t : TokL) (ht : t.parts = [])
    (hown : w6.ownsRow w.heap.size 92 5 v' (ts.length + 1) (xs ++ tokCells t (.slice none 0 0))) (hgrow : (wr.alloc O).grownBy w6 tv.ownBlock) :
    Below w.heap.size w w6 ∧ w6.ownsRow w.heap.size 92 5 v' (ts ++ [t]).length (xs ++ tokCells t (.slice none 0 0)) ∧ TokRow w6 w.heap.size (ts ++ [t]) (xs ++ tokCells t (.slice none 0 0)) := by
  have hg := grown_trans (World.grownBy_alloc wr O tv.ownBlock) hgrow
  have hrow : ∀ k, tv.ownBlock = some k → w.heap.size ≤ k := fun k hk => Nat.le_of_succ_le (World.ownsRow.lt H.own k hk).1
  refine ⟨HB.grown hg HB.size hrow, by rw [List.length_append]; exact hown, ?_⟩
  refine TokRow.snoc (TokRow.turn (fun v ps hp => own_base (World.ownsRow.kept hp hg (own_apart hp H.own (by decide))) (Nat.le_succ _)) H.row) ?_
  rw [ht]; exact World.ownsRow_nil _ _ _ _

/-- What Lex leaves. -/
def LexPost (s : ByteArray) (w : World) (e : Ending) (w' : World) : Prop :=
  ∃ v xs, e = .returned (.tuple #[v, .int .i64 (lexE s)]) ∧ Below w.heap.size w w' ∧ w'.ownsRow w.heap.size 92 5 v (lexT s).length xs ∧ TokRow w' w.heap.size (lexT s) xs
def LexRel (b : Nat) (s : ByteArray) (w : World) (m : Nat) (wr : World) : Prop :=
  ∃ j tv ts xs, s.size - j ≤ m ∧ lexTo s j ts = lexTo s (skipTo s 0) [] ∧ LexSt wr b s j tv ts xs ∧ Below b w wr
def newLexer (s : ByteArray) : Obj := .cells #[.string s, .int .i64 0, .slice none 0 0] 108
theorem LexSt.new (s : ByteArray) (w : World) : LexSt (w.alloc (newLexer s)) w.heap.size s 0 (.slice none 0 0) [] [] := by
  have h : (w.alloc (newLexer s)).heap[w.heap.size]? = some (.cells #[.string s, .int .i64 0, .slice none 0 0] 108 (0, 0)) := heap_alloc_new w _
  refine ⟨⟨cell_of_row _ _ 0 _ _ _ h, cell_of_row _ _ 1 _ _ _ h, by unfold World.frozen?; rw [h]; rfl⟩, cell_of_row _ _ 2 _ _ _ h, by unfold World.frozen?; rw [h]; rfl, World.ownsRow_nil _ _ _ _, rfl, Nat.le_refl _, Nat.zero_le _⟩

section
variable (s : ByteArray) (w : World)
set_option maxHeartbeats 8000000 in
set_option maxRecDepth 20000 in
theorem lex_any (hs : s.size ≤ maxLen) (hv : ErrVar w) :
    Calls Tryz.prog 48 #[.string s] w (LexPost s w) := by
  have hvl := hv.lt
  have VL := Lib.hid hvl
  have V := Lib.hid hv
  have HL := Lib.hid hs
  unfold maxLen at hs
  by_cases h6 : 6000 < s.size
  · have e1 : lexE s = 4 := by simp [lexE, h6]
    have e2 : lexT s = [] := by simp [lexT, h6]
    have E1 := Lib.hid e1
    have E2 := Lib.hid e2
    clear e1 e2 hv hvl
    go_enter Tryz.func48, Tryz.ntmps48
    go_wp2_with fail
    go_ret2
    exact ⟨.slice none 0 0, [], by rw [E1.out]; rfl, Below.refl _ _, by rw [E2.out]; exact World.ownsRow_nil _ _ _ _, by rw [E2.out]; rfl⟩
  · have e1 : lexE s = match lexTo s (skipTo s 0) [] with | some _ => 0 | none => 5 := by simp only [lexE, if_neg h6]
    have e2 : lexT s = match lexTo s (skipTo s 0) [] with | some ts => ts ++ [⟨0, ⟨#[]⟩, 0, [], s.size⟩] | none => [] := by simp only [lexT, if_neg h6]
    have E1 := Lib.hid e1
    have E2 := Lib.hid e2
    have HS6 := Lib.hid (show s.size ≤ 6000 by omega)
    have hd6 : decide (6000 < (s.size : Int)) = false := by simp; omega
    have N0 := Lib.hid (LexSt.new s w)
    have B0 := Lib.hid (show Below w.heap.size w (w.alloc (newLexer s)) from (Below.refl _ _).alloc (Nat.le_refl _) _)
    have SK := Lib.hid (skipTo_ok (Nat.zero_le s.size))
    clear e1 e2 hv hvl hs
    go_enter Tryz.func48, Tryz.ntmps48
    go_wp2_with fail
    refine (skip_any w.heap.size 0 s (w.alloc (newLexer s)) N0.out.rd (Nat.zero_le _) HS6.out).mono ?_
    rintro e w1 ⟨rfl, hr1, ha1⟩
    have N1 := Lib.hid (N0.out.adv ha1 hr1 SK.out.1 SK.out.2)
    have B1 := Lib.hid (B0.out.trans (ha1.to_below (Nat.le_refl _) B0.out.size))
    clear hr1 ha1
    go_wp2_with fail
    go_loopg [] (s.size - skipTo s 0) (fun m wr => LexRel w.heap.size s w m wr)
    case atStart => exact ⟨skipTo s 0, _, [], [], Nat.le_refl _, rfl, N1.out, B1.out⟩
    case round =>
      obtain ⟨j, tv, ts, xs, hm, he, hl, hb⟩ := hrel
      have HM := Lib.hid hm
      have HE := Lib.hid he
      have HLX := Lib.hid hl
      have HB := Lib.hid hb
      clear hm he hl hb
      by_cases hj : j < s.size
      · have HJ := Lib.hid hj
        cases ht : tokAt s j with
        | none =>
          have LN := Lib.hid ((lexTo_none (ts := ts) hj ht).symm.trans HE.out)
          have hnp : ∀ W e W', NextPost w.heap.size s j ts W e W' → e = .returned (.bool false) ∧ Below w.heap.size W W' := fun W e W' h => by unfold NextPost at h; rw [ht] at h; exact h
          have NP := Lib.hid hnp
          clear hj ht hnp
          go_wp2_with fail
          refine (done_no w.heap.size j s wr HLX.out.rd HL.out HJ.out).mono ?_
          rintro e w2 ⟨rfl, n2, rfl⟩
          go_wp2_with fail
          refine (next_any w.heap.size j s (wr.drewN n2) tv ts xs (HLX.out.drewN n2) HS6.out HJ.out (ErrVar.below V.out (below_drewN HB.out n2) VL.out) VL.out).mono ?_
          intro e w3 hpost
          obtain ⟨rfl, hb3⟩ := NP.out _ _ _ hpost
          have B3 := Lib.hid ((below_drewN HB.out n2).trans hb3)
          clear hpost hb3
          go_wp2_with fail
          go_ret2
          exact ⟨.slice none 0 0, [], by rw [E1.out, ← LN.out]; rfl, B3.out, by rw [E2.out, ← LN.out]; exact World.ownsRow_nil _ _ _ _, by rw [E2.out, ← LN.out]; rfl⟩
        | some tk =>
          obtain ⟨t, k'⟩ := tk
          have LN := Lib.hid ((lexTo_step (ts := ts) hj ht).symm.trans HE.out)
          have hnp : ∀ W e W', NextPost w.heap.size s j ts W e W' → e = .returned (.bool true) ∧ Below w.heap.size W W' ∧ ∃ tv' xs', LexSt W' w.heap.size s k' tv' (ts ++ [t]) xs' := fun W e W' h => by unfold NextPost at h; rw [ht] at h; exact h
          have NP := Lib.hid hnp
          have KG := Lib.hid (tokAt_gt hj ht)
          clear hj ht hnp
          go_wp2_with fail
          refine (done_no w.heap.size j s wr HLX.out.rd HL.out HJ.out).mono ?_
          rintro e w2 ⟨rfl, n2, rfl⟩
          go_wp2_with fail
          refine (next_any w.heap.size j s (wr.drewN n2) tv ts xs (HLX.out.drewN n2) HS6.out HJ.out (ErrVar.below V.out (below_drewN HB.out n2) VL.out) VL.out).mono ?_
          intro e w3 hpost
          obtain ⟨rfl, hb3, tv', xs', hl3⟩ := NP.out _ _ _ hpost
          have B3 := Lib.hid ((below_drewN HB.out n2).trans hb3)
          have L3 := Lib.hid hl3
          have SK2 := Lib.hid (skipTo_ok KG.out.2)
          clear hpost hb3 hl3
          go_wp2_with fail
          refine (skip_any w.heap.size k' s w3 L3.out.rd KG.out.2 HS6.out).mono ?_
          rintro e w4 ⟨rfl, hr4, ha4⟩
          have L4 := Lib.hid (L3.out.adv ha4 hr4 SK2.out.1 SK2.out.2)
          have B4 := Lib.hid (B3.out.trans (ha4.to_below (Nat.le_refl _) B3.out.size))
          clear hr4 ha4
          go_wp2_with fail
          go_roundg (s.size - skipTo s k')
          case rel => exact ⟨skipTo s k', tv', ts ++ [t], xs', Nat.le_refl _, LN.out, L4.out, B4.out⟩
          case measure => have := HM.out; have := KG.out.1; have := SK2.out.1; have := HJ.out; omega
      · have HJ := Lib.hid hj
        have LN := Lib.hid ((lexTo_end (ts := ts) hj).symm.trans HE.out)
        have g3 := HLX.out.tok
        clear hj
        obtain ⟨i0, hi0, hz0, hz1, hz2⟩ := info_parts info_tok
        go_wp2_with fail
        refine (done_yes w.heap.size j s wr HLX.out.rd HL.out HJ.out).mono ?_
        rintro e w2 ⟨rfl, n2, rfl⟩
        have FEW := Lib.hid (show ts.length ≤ 6000 by have := HLX.out.few; have := HLX.out.le; have := HS6.out; omega)
        go_wp2_with (at_builtin; refine wpList_append_own _ rfl _ _ 87 rfl w.heap.size 92 i0 _ 5 64 Tryz.underlying87 hi0 hz0 hz1 hz2 rfl (by decide) tv ts.length xs rfl (by exact World.ownsRow.alloc (own_base HLX.out.own (Nat.le_succ _)) _) ⟨wr.heap.size, 0, none⟩ 1 1 [.int .i64 0, .string ⟨#[]⟩, .int .i64 0, .slice none 0 0, .int .i64 s.size] rfl rfl ?e1 ?e2 ?e3 ?e4 ?e5 ?_)
        case e1 => exact news_new wr #[.int .i64 0, .string ⟨#[]⟩, .int .i64 0, .slice none 0 0, .int .i64 s.size] 92
        case e2 => simp [Value.oneCell']
        case e3 => have := FEW.out; unfold maxLen; omega
        case e4 => have := FEW.out; omega
        case e5 => have := HB.out.size; simp; omega
        intro v' w6 hown' hgrow _
        have HO := Lib.hid hown'
        have HG := Lib.hid (show (wr.alloc (.cells #[.int .i64 0, .string ⟨#[]⟩, .int .i64 0, .slice none 0 0, .int .i64 s.size] 92)).grownBy w6 tv.ownBlock from ⟨hgrow.os, hgrow.tape, hgrow.output, hgrow.size, hgrow.block⟩)
        clear hown' hgrow
        go_wp2
        go_ret2
        obtain ⟨f1, f2, f3⟩ := lex_done HLX.out HB.out ⟨0, ⟨#[]⟩, 0, [], s.size⟩ rfl HO.out HG.out
        exact ⟨v', _, by rw [E1.out, ← LN.out]; rfl, f1, by rw [E2.out, ← LN.out]; exact f2, by rw [E2.out, ← LN.out]; exact f3⟩
end
end Go.Proofs.YtlkdicabmikhkaaGreatDoor
