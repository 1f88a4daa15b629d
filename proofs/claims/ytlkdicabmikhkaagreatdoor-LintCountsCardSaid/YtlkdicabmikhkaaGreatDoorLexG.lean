/- The contract of the lexer's next. -/
import Derived.Test.YtlkdicabmikhkaaGreatDoorLexF
import Derived.Deep.AppendLies
namespace Go.Proofs.YtlkdicabmikhkaaGreatDoor
open Go.RowKit
set_option linter.unusedVariables false
set_option linter.unusedSimpArgs false

structure TokL where
  kind : Int
  text : ByteArray
  num : Int
  parts : List PartL
  at_ : Nat
def tokCells (t : TokL) (pv : Value) : List Value := [.int .i64 t.kind, .string t.text, .int .i64 t.num, pv, .int .i64 t.at_]
/-- The cells xs are those of the tokens ts, whose parts lie in blocks from B on. -/
def TokRow (w : World) (B : Nat) : List TokL → List Value → Prop
  | [], xs => xs = []
  | t :: ts, xs => ∃ pv rest, xs = tokCells t pv ++ rest ∧ PartsOwn w B pv t.parts ∧ TokRow w B ts rest
theorem TokRow.snoc {w : World} {B : Nat} {t : TokL} {pv : Value} : ∀ {ts : List TokL} {xs : List Value}, TokRow w B ts xs → PartsOwn w B pv t.parts → TokRow w B (ts ++ [t]) (xs ++ tokCells t pv) := by
  intro ts
  induction ts with
  | nil => intro xs h hp; have h : xs = [] := h; subst h; exact ⟨pv, [], by simp, hp, rfl⟩
  | cons a ts ih =>
    intro xs h hp
    obtain ⟨av, rest, rfl, ha, hr⟩ := h
    exact ⟨av, rest ++ tokCells t pv, by simp, ha, ih hr hp⟩
theorem TokRow.kept {w w' : World} {B : Nat} (hk : ∀ v ps, PartsOwn w B v ps → PartsOwn w' B v ps) : ∀ {ts : List TokL} {xs : List Value}, TokRow w B ts xs → TokRow w' B ts xs := by
  intro ts
  induction ts with
  | nil => intro xs h; exact h
  | cons a ts ih => intro xs h; obtain ⟨av, rest, rfl, ha, hr⟩ := h; exact ⟨av, rest, rfl, hk _ _ ha, ih hr⟩

/-- The lexer at block b: where it stands, and the tokens that it has. -/
structure LexSt (w : World) (b : Nat) (s : ByteArray) (k : Nat) (tv : Value) (ts : List TokL) (xs : List Value) : Prop where
  rd : Rd w b s k
  tok : w.cell? ⟨b, 2, none⟩ = some tv
  free : w.frozen? ⟨b, 2, none⟩ = false
  own : w.ownsRow (b + 1) 92 5 tv ts.length xs
  row : TokRow w (b + 1) ts xs
  few : ts.length ≤ k
  le : k ≤ s.size

theorem info_tok : (Tryz.prog.info? 92).map (fun i => (i.zero, i.size, i.bytes)) = some (some (.agg #[.int .i64 0, .string ⟨#[]⟩, .int .i64 0, .slice none 0 0, .int .i64 0]), 5, 64) := by kernel_rfl

def tokAt (s : ByteArray) (k : Nat) : Option (TokL × Nat) :=
  if startsB (pk s k) then (if nameOk s k then some (⟨3, s.extract k (nameTo s k), 0, [], k⟩, nameTo s k) else none)
  else if digitB (pk s k) then (if numB (s.extract k (runTo digitB s k)) then some (⟨1, ⟨#[]⟩, numV (s.extract k (runTo digitB s k)), [], k⟩, runTo digitB s k) else none)
  else if pk s k = 34 then (match partsTo s (k + 1) [] [] with | some (ps, k') => some (⟨2, ⟨#[]⟩, 0, ps, k⟩, k') | none => none)
  else if signOk s k then some (⟨4, s.extract k (signTo s k), 0, [], k⟩, signTo s k) else none

def NextPost (b : Nat) (s : ByteArray) (k : Nat) (ts : List TokL) (w : World) (e : Ending) (w' : World) : Prop :=
  match tokAt s k with
  | some (t, k') => e = .returned (.bool true) ∧ Below b w w' ∧ ∃ tv' xs', LexSt w' b s k' tv' (ts ++ [t]) xs'
  | none => e = .returned (.bool false) ∧ Below b w w'

/-- The token's own block. -/
def TokBlk (w : World) (g : Nat) (a c d e f : Value) : Prop := w.heap[g]? = some (.cells #[a, c, d, e, f] 92 (0, 0))
theorem TokBlk.lt {w : World} {g : Nat} {a c d e f : Value} (h : TokBlk w g a c d e f) : g < w.heap.size := (Array.getElem?_eq_some_iff.1 h).1
theorem TokBlk.adv {w w' : World} {b g : Nat} {a c d e f : Value} (h : TokBlk w g a c d e f) (ha : Adv b w w') (hb : g ≠ b) : TokBlk w' g a c d e f := (ha.block g h.lt hb).trans h
theorem TokBlk.below {w w' : World} {g : Nat} {a c d e f : Value} (h : TokBlk w g a c d e f) (ha : Below w.heap.size w w') : TokBlk w' g a c d e f := (ha.block g h.lt).trans h
theorem TokBlk.cells {w : World} {g : Nat} {a c d e f : Value} (h : TokBlk w g a c d e f) :
    w.cell? ⟨g, 0, none⟩ = some a ∧ w.cell? ⟨g, 1, none⟩ = some c ∧ w.cell? ⟨g, 2, none⟩ = some d ∧ w.cell? ⟨g, 3, none⟩ = some e ∧ w.cell? ⟨g, 4, none⟩ = some f := by
  have h : w.heap[g]? = some (.cells #[a, c, d, e, f] 92 (0, 0)) := h
  exact ⟨cell_of_row w g 0 _ _ _ h, cell_of_row w g 1 _ _ _ h, cell_of_row w g 2 _ _ _ h, cell_of_row w g 3 _ _ _ h, cell_of_row w g 4 _ _ _ h⟩
theorem TokBlk.free {w : World} {g : Nat} {a c d e f : Value} (h : TokBlk w g a c d e f) (o : Nat) : w.frozen? ⟨g, o, none⟩ = false := by
  have h : w.heap[g]? = some (.cells #[a, c, d, e, f] 92 (0, 0)) := h
  simp [World.frozen?, h]
theorem TokBlk.set0 {w : World} {g : Nat} {a c d e f : Value} (h : TokBlk w g a c d e f) (v : Value) : TokBlk (w.setCell ⟨g, 0, none⟩ v) g v c d e f := heap_setCell_same w g 0 _ _ v h
theorem TokBlk.set1 {w : World} {g : Nat} {a c d e f : Value} (h : TokBlk w g a c d e f) (v : Value) : TokBlk (w.setCell ⟨g, 1, none⟩ v) g a v d e f := heap_setCell_same w g 1 _ _ v h
theorem TokBlk.set2 {w : World} {g : Nat} {a c d e f : Value} (h : TokBlk w g a c d e f) (v : Value) : TokBlk (w.setCell ⟨g, 2, none⟩ v) g a c v e f := heap_setCell_same w g 2 _ _ v h
theorem TokBlk.set3 {w : World} {g : Nat} {a c d e f : Value} (h : TokBlk w g a c d e f) (v : Value) : TokBlk (w.setCell ⟨g, 3, none⟩ v) g a c d v f := heap_setCell_same w g 3 _ _ v h
theorem TokBlk.new (w : World) (a c d e f : Value) : TokBlk (w.alloc (.cells #[a, c, d, e, f] 92)) w.heap.size a c d e f := heap_alloc_new w _

theorem Adv.setNew {b : Nat} {x y : World} (h : Adv b x y) {p : Addr} (hp : x.heap.size ≤ p.block) (hb : b < x.heap.size) (v : Value) : Adv b x (y.setCell p v) :=
  ⟨h.os, h.tape, h.output, by simpa [World.setCell] using h.size,
    fun i hi hne => (Below.heap_setCell _ _ _ _ (by omega)).trans (h.block i hi hne),
    fun o ho => (World.cell?_setCell_other _ _ _ _ (by intro e; have : p.block = b := by rw [e]
                                                       omega)).trans (h.cell o ho), fun o => (World.frozen?_setCell ..).trans (h.frozen o)⟩
theorem Rd.setNew {w : World} {b k : Nat} {s : ByteArray} (h : Rd w b s k) {p : Addr} (hp : p.block ≠ b) (v : Value) : Rd (w.setCell p v) b s k :=
  ⟨(World.cell?_setCell_other _ _ _ _ (by intro e; exact hp (by rw [e]))).trans h.text, (World.cell?_setCell_other _ _ _ _ (by intro e; exact hp (by rw [e]))).trans h.at_, (World.frozen?_setCell ..).trans h.free⟩
theorem own_base {w : World} {B B' e z : Nat} {v : Value} {n : Nat} {xs : List Value} (h : w.ownsRow B e z v n xs) (hB : B' ≤ B) : w.ownsRow B' e z v n xs := by
  refine ⟨h.1, ?_⟩
  rcases h.2 with hn | ⟨g, cap, cur, rfl, hbg, r⟩
  · exact .inl hn
  · exact .inr ⟨g, cap, cur, rfl, Nat.le_trans hB hbg, r⟩
theorem own_set {w : World} {B e z : Nat} {v : Value} {n : Nat} {xs : List Value} (h : w.ownsRow B e z v n xs) {p : Addr} (hp : p.block < B) (u : Value) : (w.setCell p u).ownsRow B e z v n xs := ownsRow_setCell_below h hp u

theorem grown_drewL {x y : World} {row : Option Nat} (h : x.drew.grownBy y row) : x.grownBy y row := ⟨h.os, h.tape, h.output, h.size, h.block⟩
theorem own_shape {w : World} {B e z n : Nat} {v : Value} {xs : List Value} (h : w.ownsRow B e z v (n + 1) xs) : ∃ g cap, v = .slice (some ⟨g, 0, none⟩) (n + 1) cap := by
  rcases h.2 with ⟨_, h0⟩ | ⟨g, cap, cur, rfl, _⟩
  · omega
  · exact ⟨g, cap, rfl⟩
theorem kblock {w W w6 : World} {b k g : Nat} {s : ByteArray} {tv : Value} {ts : List TokL} {xs : List Value} {O : Obj} (H : LexSt w b s k tv ts xs) (A : Adv b w W) (hg : (W.alloc O).drew.grownBy w6 tv.ownBlock) (hgb : g = b ∨ w.heap.size ≤ g)
    (hl : g < W.heap.size) : w6.heap[g]? = W.heap[g]? := by
  have hb : b < w.heap.size := H.rd.lt
  have h1 : w6.heap[g]? = (W.alloc O).heap[g]? := hg.block g (by simp; omega) (fun e => by
    have h := World.ownsRow.lt H.own g e.symm
    rcases hgb with rfl | hgb <;> omega)
  rw [h1, Below.heap_alloc W O g hl]
theorem kcell {w W w6 : World} {b k g o : Nat} {s : ByteArray} {tv v : Value} {ts : List TokL} {xs : List Value} {O : Obj} (H : LexSt w b s k tv ts xs) (A : Adv b w W) (hg : (W.alloc O).drew.grownBy w6 tv.ownBlock) (hgb : g = b ∨ w.heap.size ≤ g)
    (hc : W.cell? ⟨g, o, none⟩ = some v) : w6.cell? ⟨g, o, none⟩ = some v :=
  (World.cell?_of_block (a := ⟨g, o, none⟩) (kblock H A hg hgb (World.block_lt_of_cell? W _ hc))).trans hc
theorem kfree {w W w6 : World} {b k o : Nat} {s : ByteArray} {tv : Value} {ts : List TokL} {xs : List Value} {O : Obj} (H : LexSt w b s k tv ts xs) (A : Adv b w W) (hg : (W.alloc O).drew.grownBy w6 tv.ownBlock)
    (hc : W.frozen? ⟨b, o, none⟩ = false) : w6.frozen? ⟨b, o, none⟩ = false :=
  (World.frozen?_of_block (a := ⟨b, o, none⟩) (kblock H A hg (.inl rfl) (Nat.lt_of_lt_of_le H.rd.lt A.size))).trans hc
theorem tok_far {w W w6 : World} {b k : Nat} {s : ByteArray} {tv : Value} {ts : List TokL} {xs : List Value} (H : LexSt w b s k tv ts xs) (A : Adv b w W) (hg : W.grownBy w6 tv.ownBlock) : w6.heap[b]? = W.heap[b]? := by
  have hb : b < w.heap.size := H.rd.lt
  exact hg.block b (Nat.lt_of_lt_of_le hb A.size) (fun e => by have := (World.ownsRow.lt H.own b e.symm).1; omega)

/-- What the end of next leaves, where the token counts. -/
theorem tail_done {w W w6 : World} {b k k' : Nat} {s : ByteArray} {tv pv v' : Value} {ts : List TokL} {xs : List Value} {t : TokL} (H : LexSt w b s k tv ts xs) (A : Adv b w W) (R : Rd W b s k') (h1 : k < k') (h2 : k' ≤ s.size)
    (P : PartsOwn W (b + 1) pv t.parts) (hown : w6.ownsRow (b + 1) 92 5 v' (ts.length + 1) (xs ++ tokCells t pv)) (hg : W.grownBy w6 tv.ownBlock) :
    Below b w (w6.setCell ⟨b, 2, none⟩ v') ∧ LexSt (w6.setCell ⟨b, 2, none⟩ v') b s k' v' (ts ++ [t]) (xs ++ tokCells t pv) := by
  have hb : b < w.heap.size := H.rd.lt
  have hrow : ∀ k, tv.ownBlock = some k → b + 1 ≤ k := fun k hk => (World.ownsRow.lt H.own k hk).1
  have R6 : Rd w6 b s k' := R.grown hg hrow (Nat.lt_succ_self b)
  have ho : W.ownsRow (b + 1) 92 5 tv ts.length xs := own_adv H.own A (Nat.lt_succ_self b)
  have hne : w6.heap[b]? = W.heap[b]? := hg.block b R.lt (fun e => by have := hrow b e.symm; omega)
  have hkeep : ∀ v ps, PartsOwn w (b + 1) v ps → PartsOwn (w6.setCell ⟨b, 2, none⟩ v') (b + 1) v ps := fun v ps hp => by
    have hp1 : PartsOwn W (b + 1) v ps := own_adv hp A (Nat.lt_succ_self b)
    exact own_set (World.ownsRow.kept hp1 hg (own_apart hp1 ho (by decide))) (Nat.lt_succ_self b) _
  have hc : w6.cell? ⟨b, 2, none⟩ = some tv := (World.cell?_of_block (a := ⟨b, 2, none⟩) hne).trans ((A.cell 2 (by omega)).trans H.tok)
  refine ⟨Below.setCell (p := ⟨b, 2, none⟩) (Below.grown (A.to_below (Nat.le_refl b) (Nat.le_of_lt hb)) hg (Nat.le_of_lt R.lt) (fun k hk => by have := hrow k hk; omega)) (Nat.le_refl b) _, ?_⟩
  refine ⟨?_, ?_, ?_, ?_, ?_, ?_, h2⟩
  · exact ⟨(World.cell?_setCell_other _ _ _ _ (by simp)).trans R6.text, (World.cell?_setCell_other _ _ _ _ (by simp)).trans R6.at_, (World.frozen?_setCell ..).trans R6.free⟩
  · exact World.cell?_setCell_same _ _ _ hc
  · exact (World.frozen?_setCell ..).trans ((World.frozen?_of_block (a := ⟨b, 2, none⟩) hne).trans ((A.frozen 2).trans H.free))
  · rw [List.length_append]; exact own_set hown (Nat.lt_succ_self b) _
  · exact TokRow.snoc (TokRow.kept hkeep H.row) (own_set (World.ownsRow.kept P hg (own_apart P ho (by decide))) (Nat.lt_succ_self b) _)
  · have := H.few; simp; omega
theorem tail_fail {w W w6 : World} {b k : Nat} {s : ByteArray} {tv v' : Value} {ts : List TokL} {xs : List Value} (H : LexSt w b s k tv ts xs) (A : Adv b w W) (hg : W.grownBy w6 tv.ownBlock) :
    Below b w (w6.setCell ⟨b, 2, none⟩ v') := by
  have hb : b < w.heap.size := H.rd.lt
  have hrow : ∀ k, tv.ownBlock = some k → b + 1 ≤ k := fun k hk => (World.ownsRow.lt H.own k hk).1
  exact Below.setCell (p := ⟨b, 2, none⟩) (Below.grown (A.to_below (Nat.le_refl b) (Nat.le_of_lt hb)) hg (by have := A.size; omega) (fun k hk => by have := hrow k hk; omega)) (Nat.le_refl b) _

theorem partsAt_gt (s : ByteArray) : ∀ n k ps pl r k', partsAt s n k ps pl = some (r, k') → k < k' ∧ k' ≤ s.size := by
  intro n
  induction n with
  | zero => intro k ps pl r k' h; simp [partsAt] at h
  | succ n ih =>
    intro k ps pl r k' h
    rw [partsAt] at h
    split at h
    · rename_i ht
      have := tkB_lt ht
      simp at h
      omega
    · split at h
      · split at h
        · rename_i hr
          have := ih _ _ _ _ _ h
          have := refTo_ok hr
          omega
        · simp at h
      · split at h
        · rename_i hr
          have := ih _ _ _ _ _ h
          have := charTo_ok hr
          omega
        · simp at h
theorem partsTo_gt {s : ByteArray} {k : Nat} {r : List PartL} {k' : Nat} (h : partsTo s (k + 1) [] [] = some (r, k')) : k < k' ∧ k' ≤ s.size := by
  have := partsAt_gt s _ _ _ _ _ _ h
  omega
theorem signTo_ok {s : ByteArray} {k : Nat} (hk : k < s.size) : k < signTo s k ∧ signTo s k ≤ s.size := by
  unfold signTo
  split
  · rename_i h
    have : ∃ i, i < 6 ∧ isAt s (twoSign i) k = true := by
      unfold twoOk at h
      simp only [Bool.or_eq_true] at h
      rcases h with ((((h | h) | h) | h) | h) | h
      · exact ⟨0, by omega, h⟩
      · exact ⟨1, by omega, h⟩
      · exact ⟨2, by omega, h⟩
      · exact ⟨3, by omega, h⟩
      · exact ⟨4, by omega, h⟩
      · exact ⟨5, by omega, h⟩
    obtain ⟨i, _, hi⟩ := this
    have := isAt_le hi
    rw [twoSize] at this
    omega
  · rw [rdTo_in hk]; omega
theorem nameTo_gt {s : ByteArray} {k : Nat} (hk : k < s.size) (h : startsB (pk s k) = true) : k < nameTo s k := by
  unfold nameTo
  rw [if_pos h]
  exact runTo_gt hk (by simp [inNameB, h])
section
variable (b k : Nat) (s : ByteArray) (w : World)
set_option maxHeartbeats 8000000 in
set_option maxRecDepth 20000 in
theorem next_any (tv : Value) (ts : List TokL) (xs : List Value) (h : LexSt w b s k tv ts xs) (hs : s.size ≤ 6000) (hk : k < s.size) (hv : ErrVar w) (hvb : 2 < b) :
    Calls Tryz.prog 65 #[.pointer (some ⟨b, 0, none⟩)] w (NextPost b s k ts w) := by
  have HL := Lib.hid (len_ok hs)
  have HS6 := Lib.hid hs
  have H48 := Lib.hid (show s.size ≤ 281474976710656 by omega)
  have HK := Lib.hid hk
  have V := Lib.hid hv
  have VB := Lib.hid hvb
  have H := Lib.hid h
  have HB := Lib.hid h.rd.lt
  have hb := h.rd.lt
  obtain ⟨⟨g0, g1, g2⟩, g3, g4, -, -, -, -⟩ := h
  have q1 := pk_lo s k
  have q2 := pk_hi s k
  clear hs hk hv hvb
  cases c1 : startsB (pk s k)
  · have C1 := Lib.hid c1
    cases c2 : digitB (pk s k)
    · have C2 := Lib.hid c2
      by_cases c3 : pk s k = 34
      · cases c4 : partsTo s (k + 1) [] [] with
        | none =>
          have hta : tokAt s k = none := by rw [tokAt, c1, c2, if_pos c3, c4]; rfl
          have TA := Lib.hid hta
          have hpp : ∀ W e W', PartsPost b s (k + 1) W e W' → e = .returned (.tuple #[.slice none 0 0, .bool false]) ∧ Adv b W W' := fun W e W' h => by unfold PartsPost at h; rw [c4] at h; exact h
          have PP := Lib.hid hpp
          have TQ := Lib.hid (show tkB s k 34 = true by simp [tkB, HK.out, c3])
          have g34 : (pk s k == 34) = true := by simpa using c3
          clear c1 c2 c3 c4 hta hpp
          go_enter Tryz.func65, Tryz.ntmps65
          go_wp2_with fail
          have B0 := Lib.hid (show Below w.heap.size w (w.alloc (.cells #[.int .i64 0, .string ⟨#[]⟩, .int .i64 0, .slice none 0 0, .int .i64 k] 92)) from (Below.refl _ _).alloc (Nat.le_refl _) _)
          have T0 := Lib.hid (TokBlk.new w (.int .i64 0) (.string ⟨#[]⟩) (.int .i64 0) (.slice none 0 0) (.int .i64 k))
          refine (peek_any b k s _ (H.out.rd.below B0.out) HL.out).mono ?_
          rintro e w1 ⟨rfl, n1, rfl⟩
          go_wp2_with fail
          refine (starts_any _ _ q1 q2).mono ?_
          rw [C1.out]
          rintro e w2 ⟨rfl, rfl⟩
          go_wp2_with fail
          refine (digit_any _ _ q1 q2).mono ?_
          rw [C2.out]
          rintro e w3 ⟨rfl, rfl⟩
          go_wp2_with fail
          have A1 := Lib.hid (show Adv b w (((w.alloc (.cells #[.int .i64 0, .string ⟨#[]⟩, .int .i64 0, .slice none 0 0, .int .i64 k] 92)).drewN n1).setCell ⟨w.heap.size, 0, none⟩ (.int .i64 2)) from Adv.setNew (p := ⟨w.heap.size, 0, none⟩) (((Adv.refl b w).below HB.out B0.out).drewN n1) (Nat.le_refl _) HB.out _)
          have T1 := Lib.hid (show TokBlk (((w.alloc (.cells #[.int .i64 0, .string ⟨#[]⟩, .int .i64 0, .slice none 0 0, .int .i64 k] 92)).drewN n1).setCell ⟨w.heap.size, 0, none⟩ (.int .i64 2)) w.heap.size (.int .i64 2) (.string ⟨#[]⟩) (.int .i64 0) (.slice none 0 0) (.int .i64 k) from TokBlk.set0 (w := (w.alloc (.cells #[.int .i64 0, .string ⟨#[]⟩, .int .i64 0, .slice none 0 0, .int .i64 k] 92)).drewN n1) T0.out _)
          have R1 := Lib.hid (show Rd (((w.alloc (.cells #[.int .i64 0, .string ⟨#[]⟩, .int .i64 0, .slice none 0 0, .int .i64 k] 92)).drewN n1).setCell ⟨w.heap.size, 0, none⟩ (.int .i64 2)) b s k from Rd.setNew (p := ⟨w.heap.size, 0, none⟩) ((H.out.rd.below B0.out).drewN n1) (Nat.ne_of_gt HB.out) _)
          refine (parts_any b k s _ R1.out H.out.le HS6.out TQ.out).mono ?_
          intro e w2 hpost
          obtain ⟨rfl, ha2⟩ := PP.out _ _ _ hpost
          have A3 := Lib.hid ((A1.out.trans ha2).setNew (p := ⟨w.heap.size, 3, none⟩) (Nat.le_refl _) HB.out (.slice none 0 0))
          have T2 := Lib.hid (T1.out.adv ha2 (Nat.ne_of_gt HB.out))
          have T3 := Lib.hid ((T1.out.adv ha2 (Nat.ne_of_gt HB.out)).set3 (.slice none 0 0))
          clear hpost ha2
          obtain ⟨t0, t1, t2, t3, t4⟩ := T2.out.cells
          have tf := T2.out.free 3
          clear T2
          go_wp2_with fail
          clear t0 t1 t2 t3 t4 tf
          generalize hwz : w2.setCell ⟨w.heap.size, 3, none⟩ (.slice none 0 0) = wz at *
          clear hwz
          obtain ⟨t0, t1, t2, t3, t4⟩ := T3.out.cells
          have g3' : wz.cell? ⟨b, 2, none⟩ = some tv := (A3.out.cell 2 (by omega)).trans g3
          have g4' : wz.frozen? ⟨b, 2, none⟩ = false := (A3.out.frozen 2).trans g4
          have HS := Lib.hid A3.out.size
          clear g0 g1 g2 g3 g4
          obtain ⟨i0, hi0, hz0, hz1, hz2⟩ := info_parts info_tok
          have lb := Nat.lt_of_lt_of_le HB.out A3.out.size
          have lT := T3.out.lt
          have HF := Lib.hid (show ts.length + 1 ≤ maxLen ∧ (ts.length + 1) * 64 ≤ 140737488355328 by have := H.out.few; have := H.out.le; have := HS6.out; unfold maxLen; omega)
          have HW := Lib.hid (show b + 1 ≤ wz.heap.size + 1 by omega)
          go_region_law (first | (refine step_append_lies _ (by rfl) _ _ _ (by rfl) (b + 1) 92 i0 _ 5 64 Tryz.underlying87 hi0 hz0 hz1 hz2 rfl (by omega) tv ts.length xs (by rfl) (by exact (World.ownsRow.alloc (own_adv H.out.own A3.out (Nat.lt_succ_self b)) _)) ⟨wz.heap.size, 0, none⟩ 1 1 [.int .i64 2, .string ⟨#[]⟩, .int .i64 0, (.slice none 0 0), .int .i64 k] (by rfl) (by rfl) (by exact (news_new wz #[.int .i64 2, .string ⟨#[]⟩, .int .i64 0, (.slice none 0 0), .int .i64 k] 92)) (by simp [Value.oneCell']) (by omega) HF.out.1 HF.out.2 (by simp; omega) (wz.heap.size + 1) (by simp) ?_; intro gg cc w6 hown' hgrow hat hlt; have g36 : w6.cell? ⟨b, 2, none⟩ = some tv := kcell H.out A3.out hgrow (.inl rfl) g3'; have g46 : w6.frozen? ⟨b, 2, none⟩ = false := kfree H.out A3.out hgrow g4'))
          all_goals (have HO := Lib.hid hown'; have hg6 := grown_trans (World.grownBy_alloc wz _ _) (grown_drewL hgrow); have HG := Lib.hid hg6; clear hown' hgrow hg6 t0 t1 t2 t3 t4 g3' g4')
          all_goals go_wp2
          all_goals go_ret
          all_goals (show NextPost b s k ts w _ _)
          all_goals unfold NextPost
          all_goals rw [TA.out]
          all_goals exact ⟨rfl, tail_fail H.out A3.out HG.out⟩
        | some pk' =>
          obtain ⟨ps, k'⟩ := pk'
          have hta : tokAt s k = some (⟨2, ⟨#[]⟩, 0, ps, k⟩, k') := by rw [tokAt, c1, c2, if_pos c3, c4]; rfl
          have TA := Lib.hid hta
          have hpp : ∀ W e W', PartsPost b s (k + 1) W e W' → ∃ pv, e = .returned (.tuple #[pv, .bool true]) ∧ Rd W' b s k' ∧ Adv b W W' ∧ PartsOwn W' W.heap.size pv ps := fun W e W' h => by unfold PartsPost at h; rw [c4] at h; exact h
          have PP := Lib.hid hpp
          have TQ := Lib.hid (show tkB s k 34 = true by simp [tkB, HK.out, c3])
          have GE := Lib.hid (partsTo_gt c4)
          have g34 : (pk s k == 34) = true := by simpa using c3
          clear c1 c2 c3 c4 hta hpp
          go_enter Tryz.func65, Tryz.ntmps65
          go_wp2_with fail
          have B0 := Lib.hid (show Below w.heap.size w (w.alloc (.cells #[.int .i64 0, .string ⟨#[]⟩, .int .i64 0, .slice none 0 0, .int .i64 k] 92)) from (Below.refl _ _).alloc (Nat.le_refl _) _)
          have T0 := Lib.hid (TokBlk.new w (.int .i64 0) (.string ⟨#[]⟩) (.int .i64 0) (.slice none 0 0) (.int .i64 k))
          refine (peek_any b k s _ (H.out.rd.below B0.out) HL.out).mono ?_
          rintro e w1 ⟨rfl, n1, rfl⟩
          go_wp2_with fail
          refine (starts_any _ _ q1 q2).mono ?_
          rw [C1.out]
          rintro e w2 ⟨rfl, rfl⟩
          go_wp2_with fail
          refine (digit_any _ _ q1 q2).mono ?_
          rw [C2.out]
          rintro e w3 ⟨rfl, rfl⟩
          go_wp2_with fail
          have A1 := Lib.hid (show Adv b w (((w.alloc (.cells #[.int .i64 0, .string ⟨#[]⟩, .int .i64 0, .slice none 0 0, .int .i64 k] 92)).drewN n1).setCell ⟨w.heap.size, 0, none⟩ (.int .i64 2)) from Adv.setNew (p := ⟨w.heap.size, 0, none⟩) (((Adv.refl b w).below HB.out B0.out).drewN n1) (Nat.le_refl _) HB.out _)
          have T1 := Lib.hid (show TokBlk (((w.alloc (.cells #[.int .i64 0, .string ⟨#[]⟩, .int .i64 0, .slice none 0 0, .int .i64 k] 92)).drewN n1).setCell ⟨w.heap.size, 0, none⟩ (.int .i64 2)) w.heap.size (.int .i64 2) (.string ⟨#[]⟩) (.int .i64 0) (.slice none 0 0) (.int .i64 k) from TokBlk.set0 (w := (w.alloc (.cells #[.int .i64 0, .string ⟨#[]⟩, .int .i64 0, .slice none 0 0, .int .i64 k] 92)).drewN n1) T0.out _)
          have R1 := Lib.hid (show Rd (((w.alloc (.cells #[.int .i64 0, .string ⟨#[]⟩, .int .i64 0, .slice none 0 0, .int .i64 k] 92)).drewN n1).setCell ⟨w.heap.size, 0, none⟩ (.int .i64 2)) b s k from Rd.setNew (p := ⟨w.heap.size, 0, none⟩) ((H.out.rd.below B0.out).drewN n1) (Nat.ne_of_gt HB.out) _)
          refine (parts_any b k s _ R1.out H.out.le HS6.out TQ.out).mono ?_
          intro e w2 hpost
          obtain ⟨pv, rfl, hr2, ha2, hp2⟩ := PP.out _ _ _ hpost
          obtain ⟨pao, pn, pcap, rfl⟩ := own_slice hp2
          have R3 := Lib.hid (hr2.setNew (p := ⟨w.heap.size, 3, none⟩) (Nat.ne_of_gt HB.out) (.slice pao pn pcap))
          have A3 := Lib.hid ((A1.out.trans ha2).setNew (p := ⟨w.heap.size, 3, none⟩) (Nat.le_refl _) HB.out (.slice pao pn pcap))
          have T2 := Lib.hid (T1.out.adv ha2 (Nat.ne_of_gt HB.out))
          have T3 := Lib.hid ((T1.out.adv ha2 (Nat.ne_of_gt HB.out)).set3 (.slice pao pn pcap))
          have P3 := Lib.hid (own_base (own_set hp2 (p := ⟨w.heap.size, 3, none⟩) T1.out.lt (.slice pao pn pcap)) (by have := A1.out.size; have := HB.out; omega : b + 1 ≤ _))
          have GT := Lib.hid (show k < k' from GE.out.1)
          have K2 := Lib.hid (show k' ≤ s.size from GE.out.2)
          clear hpost ha2 hr2 hp2
          obtain ⟨t0, t1, t2, t3, t4⟩ := T2.out.cells
          have tf := T2.out.free 3
          clear T2
          go_wp2_with fail
          clear t0 t1 t2 t3 t4 tf
          generalize hwz : w2.setCell ⟨w.heap.size, 3, none⟩ (.slice pao pn pcap) = wz at *
          clear hwz
          obtain ⟨t0, t1, t2, t3, t4⟩ := T3.out.cells
          have g3' : wz.cell? ⟨b, 2, none⟩ = some tv := (A3.out.cell 2 (by omega)).trans g3
          have g4' : wz.frozen? ⟨b, 2, none⟩ = false := (A3.out.frozen 2).trans g4
          have HS := Lib.hid A3.out.size
          clear g0 g1 g2 g3 g4
          obtain ⟨i0, hi0, hz0, hz1, hz2⟩ := info_parts info_tok
          have lb := Nat.lt_of_lt_of_le HB.out A3.out.size
          have lT := T3.out.lt
          have HF := Lib.hid (show ts.length + 1 ≤ maxLen ∧ (ts.length + 1) * 64 ≤ 140737488355328 by have := H.out.few; have := H.out.le; have := HS6.out; unfold maxLen; omega)
          have HW := Lib.hid (show b + 1 ≤ wz.heap.size + 1 by omega)
          go_region_law (first | (refine step_append_lies _ (by rfl) _ _ _ (by rfl) (b + 1) 92 i0 _ 5 64 Tryz.underlying87 hi0 hz0 hz1 hz2 rfl (by omega) tv ts.length xs (by rfl) (by exact (World.ownsRow.alloc (own_adv H.out.own A3.out (Nat.lt_succ_self b)) _)) ⟨wz.heap.size, 0, none⟩ 1 1 [.int .i64 2, .string ⟨#[]⟩, .int .i64 0, (.slice pao pn pcap), .int .i64 k] (by rfl) (by rfl) (by exact (news_new wz #[.int .i64 2, .string ⟨#[]⟩, .int .i64 0, (.slice pao pn pcap), .int .i64 k] 92)) (by simp [Value.oneCell']) (by omega) HF.out.1 HF.out.2 (by simp; omega) (wz.heap.size + 1) (by simp) ?_; intro gg cc w6 hown' hgrow hat hlt; have g36 : w6.cell? ⟨b, 2, none⟩ = some tv := kcell H.out A3.out hgrow (.inl rfl) g3'; have g46 : w6.frozen? ⟨b, 2, none⟩ = false := kfree H.out A3.out hgrow g4'))
          all_goals (have HO := Lib.hid hown'; have hg6 := grown_trans (World.grownBy_alloc wz _ _) (grown_drewL hgrow); have HG := Lib.hid hg6; clear hown' hgrow hg6 t0 t1 t2 t3 t4 g3' g4')
          all_goals go_wp2
          all_goals go_ret
          all_goals (show NextPost b s k ts w _ _)
          all_goals unfold NextPost
          all_goals rw [TA.out]
          all_goals (obtain ⟨f1, f2⟩ := tail_done (t := ⟨2, ⟨#[]⟩, 0, ps, k⟩) H.out A3.out R3.out GT.out K2.out P3.out HO.out HG.out)
          all_goals exact ⟨rfl, f1, _, _, f2⟩
      · have hta : tokAt s k = if signOk s k then some (⟨4, s.extract k (signTo s k), 0, [], k⟩, signTo s k) else none := by rw [tokAt, c1, c2, if_neg c3]; rfl
        have TA := Lib.hid hta
        have KLE := Lib.hid (Nat.le_of_lt (signTo_ok HK.out).1)
        have K2 := Lib.hid (signTo_ok HK.out).2
        have GT := Lib.hid (signTo_ok HK.out).1
        have g34 : (pk s k == 34) = false := by simpa using c3
        clear c1 c2 c3 hta
        go_enter Tryz.func65, Tryz.ntmps65
        go_wp2_with fail
        have B0 := Lib.hid (show Below w.heap.size w (w.alloc (.cells #[.int .i64 0, .string ⟨#[]⟩, .int .i64 0, .slice none 0 0, .int .i64 k] 92)) from (Below.refl _ _).alloc (Nat.le_refl _) _)
        have T0 := Lib.hid (TokBlk.new w (.int .i64 0) (.string ⟨#[]⟩) (.int .i64 0) (.slice none 0 0) (.int .i64 k))
        refine (peek_any b k s _ (H.out.rd.below B0.out) HL.out).mono ?_
        rintro e w1 ⟨rfl, n1, rfl⟩
        go_wp2_with fail
        refine (starts_any _ _ q1 q2).mono ?_
        rw [C1.out]
        rintro e w2 ⟨rfl, rfl⟩
        go_wp2_with fail
        refine (digit_any _ _ q1 q2).mono ?_
        rw [C2.out]
        rintro e w3 ⟨rfl, rfl⟩
        go_wp2_with fail
        have A1 := Lib.hid (show Adv b w (((w.alloc (.cells #[.int .i64 0, .string ⟨#[]⟩, .int .i64 0, .slice none 0 0, .int .i64 k] 92)).drewN n1).setCell ⟨w.heap.size, 0, none⟩ (.int .i64 4)) from Adv.setNew (p := ⟨w.heap.size, 0, none⟩) (((Adv.refl b w).below HB.out B0.out).drewN n1) (Nat.le_refl _) HB.out _)
        have T1 := Lib.hid (show TokBlk (((w.alloc (.cells #[.int .i64 0, .string ⟨#[]⟩, .int .i64 0, .slice none 0 0, .int .i64 k] 92)).drewN n1).setCell ⟨w.heap.size, 0, none⟩ (.int .i64 4)) w.heap.size (.int .i64 4) (.string ⟨#[]⟩) (.int .i64 0) (.slice none 0 0) (.int .i64 k) from TokBlk.set0 (w := (w.alloc (.cells #[.int .i64 0, .string ⟨#[]⟩, .int .i64 0, .slice none 0 0, .int .i64 k] 92)).drewN n1) T0.out _)
        have R1 := Lib.hid (show Rd (((w.alloc (.cells #[.int .i64 0, .string ⟨#[]⟩, .int .i64 0, .slice none 0 0, .int .i64 k] 92)).drewN n1).setCell ⟨w.heap.size, 0, none⟩ (.int .i64 4)) b s k from Rd.setNew (p := ⟨w.heap.size, 0, none⟩) ((H.out.rd.below B0.out).drewN n1) (Nat.ne_of_gt HB.out) _)
        refine (sign_any b k s _ R1.out H.out.le HS6.out).mono ?_
        rintro e w2 ⟨rfl, hr2, ha2⟩
        have R2 := Lib.hid hr2
        have A2 := Lib.hid (A1.out.trans ha2)
        have T2 := Lib.hid (T1.out.adv ha2 (Nat.ne_of_gt HB.out))
        clear hr2 ha2
        obtain ⟨t0, t1, t2, t3, t4⟩ := T2.out.cells
        have tf := T2.out.free 1
        go_wp2_with fail
        go_still_tail 5, (by kernel_rfl)
        change wpList _ _ _ _ _ w2.drew
        go_wp2_with fail
        refine (since_any b _ s _ k KLE.out (R2.out.drewN 1) K2.out H48.out).mono ?_
        generalize htx : s.extract k (signTo s k) = tx at *
        rintro e w3 ⟨rfl, hb3⟩
        have hb3 := below_drewL hb3
        have R3 := Lib.hid ((R2.out.below hb3).setNew (p := ⟨w.heap.size, 1, none⟩) (Nat.ne_of_gt HB.out) (.string tx))
        have A3 := Lib.hid ((A2.out.below HB.out hb3).setNew (p := ⟨w.heap.size, 1, none⟩) (Nat.le_refl _) HB.out (.string tx))
        have T3' := Lib.hid (T2.out.below hb3)
        have T3 := Lib.hid ((T2.out.below hb3).set1 (.string tx))
        clear hb3 t0 t1 t2 t3 t4 tf
        obtain ⟨t0, t1, t2, t3, t4⟩ := T3'.out.cells
        have tf := T3'.out.free 1
        clear T3'
        go_wp2_with fail
        clear t0 t1 t2 t3 t4 tf
        generalize hwz : w3.setCell ⟨w.heap.size, 1, none⟩ (.string tx) = wz at *
        clear hwz
        obtain ⟨t0, t1, t2, t3, t4⟩ := T3.out.cells
        have g3' : wz.cell? ⟨b, 2, none⟩ = some tv := (A3.out.cell 2 (by omega)).trans g3
        have g4' : wz.frozen? ⟨b, 2, none⟩ = false := (A3.out.frozen 2).trans g4
        have HS := Lib.hid A3.out.size
        clear g0 g1 g2 g3 g4
        obtain ⟨i0, hi0, hz0, hz1, hz2⟩ := info_parts info_tok
        have lb := Nat.lt_of_lt_of_le HB.out A3.out.size
        have lT := T3.out.lt
        have HF := Lib.hid (show ts.length + 1 ≤ maxLen ∧ (ts.length + 1) * 64 ≤ 140737488355328 by have := H.out.few; have := H.out.le; have := HS6.out; unfold maxLen; omega)
        have HW := Lib.hid (show b + 1 ≤ wz.heap.size + 1 by omega)
        go_region_law (first | (refine step_append_lies _ (by rfl) _ _ _ (by rfl) (b + 1) 92 i0 _ 5 64 Tryz.underlying87 hi0 hz0 hz1 hz2 rfl (by omega) tv ts.length xs (by rfl) (by exact (World.ownsRow.alloc (own_adv H.out.own A3.out (Nat.lt_succ_self b)) _)) ⟨wz.heap.size, 0, none⟩ 1 1 [.int .i64 4, .string tx, .int .i64 0, (.slice none 0 0), .int .i64 k] (by rfl) (by rfl) (by exact (news_new wz #[.int .i64 4, .string tx, .int .i64 0, (.slice none 0 0), .int .i64 k] 92)) (by simp [Value.oneCell']) (by omega) HF.out.1 HF.out.2 (by simp; omega) (wz.heap.size + 1) (by simp) ?_; intro gg cc w6 hown' hgrow hat hlt; have g36 : w6.cell? ⟨b, 2, none⟩ = some tv := kcell H.out A3.out hgrow (.inl rfl) g3'; have g46 : w6.frozen? ⟨b, 2, none⟩ = false := kfree H.out A3.out hgrow g4'))
        all_goals (have HO := Lib.hid hown'; have hg6 := grown_trans (World.grownBy_alloc wz _ _) (grown_drewL hgrow); have HG := Lib.hid hg6; clear hown' hgrow hg6 t0 t1 t2 t3 t4 g3' g4')
        all_goals go_wp2
        all_goals go_ret
        all_goals (show NextPost b s k ts w _ _)
        all_goals unfold NextPost
        all_goals rw [TA.out]
        all_goals cases hok : signOk s k
        all_goals first
          | exact ⟨rfl, tail_fail H.out A3.out HG.out⟩
          | (obtain ⟨f1, f2⟩ := tail_done (t := ⟨4, tx, 0, [], k⟩) H.out A3.out R3.out GT.out K2.out (World.ownsRow_nil _ _ _ _) HO.out HG.out
             exact ⟨rfl, f1, _, _, f2⟩)
    · have C2 := Lib.hid c2
      have hta : tokAt s k = if numB (s.extract k (runTo digitB s k)) then some (⟨1, ⟨#[]⟩, numV (s.extract k (runTo digitB s k)), [], k⟩, runTo digitB s k) else none := by rw [tokAt, c1, c2]; rfl
      have TA := Lib.hid hta
      have K2 := Lib.hid (runTo_le (p := digitB) (Nat.le_of_lt HK.out))
      have GT := Lib.hid (runTo_gt HK.out c2)
      clear c1 c2 hta
      go_enter Tryz.func65, Tryz.ntmps65
      go_wp2_with fail
      have B0 := Lib.hid (show Below w.heap.size w (w.alloc (.cells #[.int .i64 0, .string ⟨#[]⟩, .int .i64 0, .slice none 0 0, .int .i64 k] 92)) from (Below.refl _ _).alloc (Nat.le_refl _) _)
      have T0 := Lib.hid (TokBlk.new w (.int .i64 0) (.string ⟨#[]⟩) (.int .i64 0) (.slice none 0 0) (.int .i64 k))
      refine (peek_any b k s _ (H.out.rd.below B0.out) HL.out).mono ?_
      rintro e w1 ⟨rfl, n1, rfl⟩
      go_wp2_with fail
      refine (starts_any _ _ q1 q2).mono ?_
      rw [C1.out]
      rintro e w2 ⟨rfl, rfl⟩
      go_wp2_with fail
      refine (digit_any _ _ q1 q2).mono ?_
      rw [C2.out]
      rintro e w3 ⟨rfl, rfl⟩
      go_wp2_with fail
      have A1 := Lib.hid (show Adv b w (((w.alloc (.cells #[.int .i64 0, .string ⟨#[]⟩, .int .i64 0, .slice none 0 0, .int .i64 k] 92)).drewN n1).setCell ⟨w.heap.size, 0, none⟩ (.int .i64 1)) from Adv.setNew (p := ⟨w.heap.size, 0, none⟩) (((Adv.refl b w).below HB.out B0.out).drewN n1) (Nat.le_refl _) HB.out _)
      have T1 := Lib.hid (show TokBlk (((w.alloc (.cells #[.int .i64 0, .string ⟨#[]⟩, .int .i64 0, .slice none 0 0, .int .i64 k] 92)).drewN n1).setCell ⟨w.heap.size, 0, none⟩ (.int .i64 1)) w.heap.size (.int .i64 1) (.string ⟨#[]⟩) (.int .i64 0) (.slice none 0 0) (.int .i64 k) from TokBlk.set0 (w := (w.alloc (.cells #[.int .i64 0, .string ⟨#[]⟩, .int .i64 0, .slice none 0 0, .int .i64 k] 92)).drewN n1) T0.out _)
      have R1 := Lib.hid (show Rd (((w.alloc (.cells #[.int .i64 0, .string ⟨#[]⟩, .int .i64 0, .slice none 0 0, .int .i64 k] 92)).drewN n1).setCell ⟨w.heap.size, 0, none⟩ (.int .i64 1)) b s k from Rd.setNew (p := ⟨w.heap.size, 0, none⟩) ((H.out.rd.below B0.out).drewN n1) (Nat.ne_of_gt HB.out) _)
      refine (number_any b k s _ R1.out H.out.le HS6.out (V.out.adv A1.out VB.out) VB.out C2.out HK.out).mono ?_
      generalize hnv : numV (s.extract k (runTo digitB s k)) = nv at *
      generalize hnb : numB (s.extract k (runTo digitB s k)) = nb at *
      rintro e w2 ⟨rfl, hr2, ha2⟩
      have R3 := Lib.hid (hr2.setNew (p := ⟨w.heap.size, 2, none⟩) (Nat.ne_of_gt HB.out) (.int .i64 nv))
      have A3 := Lib.hid ((A1.out.trans ha2).setNew (p := ⟨w.heap.size, 2, none⟩) (Nat.le_refl _) HB.out (.int .i64 nv))
      have T2 := Lib.hid (T1.out.adv ha2 (Nat.ne_of_gt HB.out))
      have T3 := Lib.hid ((T1.out.adv ha2 (Nat.ne_of_gt HB.out)).set2 (.int .i64 nv))
      clear hr2 ha2 hnv hnb
      obtain ⟨t0, t1, t2, t3, t4⟩ := T2.out.cells
      have tf := T2.out.free 2
      clear T2
      go_wp2_with fail
      clear t0 t1 t2 t3 t4 tf
      generalize hwz : w2.setCell ⟨w.heap.size, 2, none⟩ (.int .i64 nv) = wz at *
      clear hwz
      obtain ⟨t0, t1, t2, t3, t4⟩ := T3.out.cells
      have g3' : wz.cell? ⟨b, 2, none⟩ = some tv := (A3.out.cell 2 (by omega)).trans g3
      have g4' : wz.frozen? ⟨b, 2, none⟩ = false := (A3.out.frozen 2).trans g4
      have HS := Lib.hid A3.out.size
      clear g0 g1 g2 g3 g4
      obtain ⟨i0, hi0, hz0, hz1, hz2⟩ := info_parts info_tok
      have lb := Nat.lt_of_lt_of_le HB.out A3.out.size
      have lT := T3.out.lt
      have HF := Lib.hid (show ts.length + 1 ≤ maxLen ∧ (ts.length + 1) * 64 ≤ 140737488355328 by have := H.out.few; have := H.out.le; have := HS6.out; unfold maxLen; omega)
      have HW := Lib.hid (show b + 1 ≤ wz.heap.size + 1 by omega)
      go_region_law (first | (refine step_append_lies _ (by rfl) _ _ _ (by rfl) (b + 1) 92 i0 _ 5 64 Tryz.underlying87 hi0 hz0 hz1 hz2 rfl (by omega) tv ts.length xs (by rfl) (by exact (World.ownsRow.alloc (own_adv H.out.own A3.out (Nat.lt_succ_self b)) _)) ⟨wz.heap.size, 0, none⟩ 1 1 [.int .i64 1, .string ⟨#[]⟩, .int .i64 nv, (.slice none 0 0), .int .i64 k] (by rfl) (by rfl) (by exact (news_new wz #[.int .i64 1, .string ⟨#[]⟩, .int .i64 nv, (.slice none 0 0), .int .i64 k] 92)) (by simp [Value.oneCell']) (by omega) HF.out.1 HF.out.2 (by simp; omega) (wz.heap.size + 1) (by simp) ?_; intro gg cc w6 hown' hgrow hat hlt; have g36 : w6.cell? ⟨b, 2, none⟩ = some tv := kcell H.out A3.out hgrow (.inl rfl) g3'; have g46 : w6.frozen? ⟨b, 2, none⟩ = false := kfree H.out A3.out hgrow g4'))
      all_goals (have HO := Lib.hid hown'; have hg6 := grown_trans (World.grownBy_alloc wz _ _) (grown_drewL hgrow); have HG := Lib.hid hg6; clear hown' hgrow hg6 t0 t1 t2 t3 t4 g3' g4')
      all_goals go_wp2
      all_goals go_ret
      all_goals (show NextPost b s k ts w _ _)
      all_goals unfold NextPost
      all_goals rw [TA.out]
      all_goals cases hok : nb
      all_goals first
        | exact ⟨rfl, tail_fail H.out A3.out HG.out⟩
        | (obtain ⟨f1, f2⟩ := tail_done (t := ⟨1, ⟨#[]⟩, nv, [], k⟩) H.out A3.out R3.out GT.out K2.out (World.ownsRow_nil _ _ _ _) HO.out HG.out
           exact ⟨rfl, f1, _, _, f2⟩)
  · have C1 := Lib.hid c1
    have hta : tokAt s k = if nameOk s k then some (⟨3, s.extract k (nameTo s k), 0, [], k⟩, nameTo s k) else none := by rw [tokAt, c1]; rfl
    have TA := Lib.hid hta
    have KLE := Lib.hid (le_nameTo s k)
    have K2 := Lib.hid (nameTo_le (Nat.le_of_lt HK.out))
    have GT := Lib.hid (nameTo_gt HK.out c1)
    clear c1 hta
    go_enter Tryz.func65, Tryz.ntmps65
    go_wp2_with fail
    have B0 := Lib.hid (show Below w.heap.size w (w.alloc (.cells #[.int .i64 0, .string ⟨#[]⟩, .int .i64 0, .slice none 0 0, .int .i64 k] 92)) from (Below.refl _ _).alloc (Nat.le_refl _) _)
    have T0 := Lib.hid (TokBlk.new w (.int .i64 0) (.string ⟨#[]⟩) (.int .i64 0) (.slice none 0 0) (.int .i64 k))
    refine (peek_any b k s _ (H.out.rd.below B0.out) HL.out).mono ?_
    rintro e w1 ⟨rfl, n1, rfl⟩
    go_wp2_with fail
    refine (starts_any _ _ q1 q2).mono ?_
    rw [C1.out]
    rintro e w2 ⟨rfl, rfl⟩
    go_wp2_with fail
    have A1 := Lib.hid (show Adv b w (((w.alloc (.cells #[.int .i64 0, .string ⟨#[]⟩, .int .i64 0, .slice none 0 0, .int .i64 k] 92)).drewN n1).setCell ⟨w.heap.size, 0, none⟩ (.int .i64 3)) from Adv.setNew (p := ⟨w.heap.size, 0, none⟩) (((Adv.refl b w).below HB.out B0.out).drewN n1) (Nat.le_refl _) HB.out _)
    have T1 := Lib.hid (show TokBlk (((w.alloc (.cells #[.int .i64 0, .string ⟨#[]⟩, .int .i64 0, .slice none 0 0, .int .i64 k] 92)).drewN n1).setCell ⟨w.heap.size, 0, none⟩ (.int .i64 3)) w.heap.size (.int .i64 3) (.string ⟨#[]⟩) (.int .i64 0) (.slice none 0 0) (.int .i64 k) from TokBlk.set0 (w := (w.alloc (.cells #[.int .i64 0, .string ⟨#[]⟩, .int .i64 0, .slice none 0 0, .int .i64 k] 92)).drewN n1) T0.out _)
    have R1 := Lib.hid (show Rd (((w.alloc (.cells #[.int .i64 0, .string ⟨#[]⟩, .int .i64 0, .slice none 0 0, .int .i64 k] 92)).drewN n1).setCell ⟨w.heap.size, 0, none⟩ (.int .i64 3)) b s k from Rd.setNew (p := ⟨w.heap.size, 0, none⟩) ((H.out.rd.below B0.out).drewN n1) (Nat.ne_of_gt HB.out) _)
    refine (name_any b k s _ R1.out H.out.le HL.out).mono ?_
    rintro e w2 ⟨rfl, hr2, ha2⟩
    have R2 := Lib.hid hr2
    have A2 := Lib.hid (A1.out.trans ha2)
    have T2 := Lib.hid (T1.out.adv ha2 (Nat.ne_of_gt HB.out))
    clear hr2 ha2
    obtain ⟨t0, t1, t2, t3, t4⟩ := T2.out.cells
    have tf := T2.out.free 1
    go_wp2_with fail
    go_still_tail 5, (by kernel_rfl)
    change wpList _ _ _ _ _ w2.drew
    go_wp2_with fail
    refine (since_any b _ s _ k KLE.out (R2.out.drewN 1) K2.out H48.out).mono ?_
    generalize htx : s.extract k (nameTo s k) = tx at *
    rintro e w3 ⟨rfl, hb3⟩
    have hb3 := below_drewL hb3
    have R3 := Lib.hid ((R2.out.below hb3).setNew (p := ⟨w.heap.size, 1, none⟩) (Nat.ne_of_gt HB.out) (.string tx))
    have A3 := Lib.hid ((A2.out.below HB.out hb3).setNew (p := ⟨w.heap.size, 1, none⟩) (Nat.le_refl _) HB.out (.string tx))
    have T3' := Lib.hid (T2.out.below hb3)
    have T3 := Lib.hid ((T2.out.below hb3).set1 (.string tx))
    clear hb3 t0 t1 t2 t3 t4 tf
    obtain ⟨t0, t1, t2, t3, t4⟩ := T3'.out.cells
    have tf := T3'.out.free 1
    clear T3'
    go_wp2_with fail
    clear t0 t1 t2 t3 t4 tf
    generalize hwz : w3.setCell ⟨w.heap.size, 1, none⟩ (.string tx) = wz at *
    clear hwz
    obtain ⟨t0, t1, t2, t3, t4⟩ := T3.out.cells
    have g3' : wz.cell? ⟨b, 2, none⟩ = some tv := (A3.out.cell 2 (by omega)).trans g3
    have g4' : wz.frozen? ⟨b, 2, none⟩ = false := (A3.out.frozen 2).trans g4
    have HS := Lib.hid A3.out.size
    clear g0 g1 g2 g3 g4
    obtain ⟨i0, hi0, hz0, hz1, hz2⟩ := info_parts info_tok
    have lb := Nat.lt_of_lt_of_le HB.out A3.out.size
    have lT := T3.out.lt
    have HF := Lib.hid (show ts.length + 1 ≤ maxLen ∧ (ts.length + 1) * 64 ≤ 140737488355328 by have := H.out.few; have := H.out.le; have := HS6.out; unfold maxLen; omega)
    have HW := Lib.hid (show b + 1 ≤ wz.heap.size + 1 by omega)
    go_region_law (first | (refine step_append_lies _ (by rfl) _ _ _ (by rfl) (b + 1) 92 i0 _ 5 64 Tryz.underlying87 hi0 hz0 hz1 hz2 rfl (by omega) tv ts.length xs (by rfl) (by exact (World.ownsRow.alloc (own_adv H.out.own A3.out (Nat.lt_succ_self b)) _)) ⟨wz.heap.size, 0, none⟩ 1 1 [.int .i64 3, .string tx, .int .i64 0, (.slice none 0 0), .int .i64 k] (by rfl) (by rfl) (by exact (news_new wz #[.int .i64 3, .string tx, .int .i64 0, (.slice none 0 0), .int .i64 k] 92)) (by simp [Value.oneCell']) (by omega) HF.out.1 HF.out.2 (by simp; omega) (wz.heap.size + 1) (by simp) ?_; intro gg cc w6 hown' hgrow hat hlt; have g36 : w6.cell? ⟨b, 2, none⟩ = some tv := kcell H.out A3.out hgrow (.inl rfl) g3'; have g46 : w6.frozen? ⟨b, 2, none⟩ = false := kfree H.out A3.out hgrow g4'))
    all_goals (have HO := Lib.hid hown'; have hg6 := grown_trans (World.grownBy_alloc wz _ _) (grown_drewL hgrow); have HG := Lib.hid hg6; clear hown' hgrow hg6 t0 t1 t2 t3 t4 g3' g4')
    all_goals go_wp2
    all_goals go_ret
    all_goals (show NextPost b s k ts w _ _)
    all_goals unfold NextPost
    all_goals rw [TA.out]
    all_goals cases hok : nameOk s k
    all_goals first
      | exact ⟨rfl, tail_fail H.out A3.out HG.out⟩
      | (obtain ⟨f1, f2⟩ := tail_done (t := ⟨3, tx, 0, [], k⟩) H.out A3.out R3.out GT.out K2.out (World.ownsRow_nil _ _ _ _) HO.out HG.out
         exact ⟨rfl, f1, _, _, f2⟩)
end
end Go.Proofs.YtlkdicabmikhkaaGreatDoor
