/- Tokens as they are read; the law's example; labels. -/
import Derived.Test.YtndeihmclecmcaaGreatDoorLexF
import Derived.Deep.AppendLies
namespace Go.Proofs.YtndeihmclecmcaaGreatDoor
open Go.RowKit
set_option linter.unusedVariables false
set_option linter.unusedSimpArgs false

structure TokL where
  kind : Int
  text : ByteArray
  num : Int
  parts : List PartL
  at_ : Nat
def tokCells (t : TokL) (pv : Value) : List Value := [.int .i64 t.kind, .string t.text, .int .i64 t.num, pv, .int .i64 t.at_]
/-- The cells xs are those of the tokens ts, whose parts lie in blocks from B on. -/
def TokRow (w : World) (B : Nat) : List TokL → List Value → Prop
  | [], xs => xs = []
  | t :: ts, xs => ∃ pv rest, xs = tokCells t pv ++ rest ∧ PartsOwn w B pv t.parts ∧ TokRow w B ts rest
theorem TokRow.snoc {w : World} {B : Nat} {t : TokL} {pv : Value} : ∀ {ts : List TokL} {xs : List Value}, TokRow w B ts xs → PartsOwn w B pv t.parts → TokRow w B (ts ++ [t]) (xs ++ tokCells t pv) := by
  intro ts
  induction ts with
  | nil => intro xs h hp; have h : xs = [] := h; subst h; exact ⟨pv, [], by simp, hp, rfl⟩
  | cons a ts ih =>
    intro xs h hp
    obtain ⟨av, rest, rfl, ha, hr⟩ := h
    exact ⟨av, rest ++ tokCells t pv, by simp, ha, ih hr hp⟩
theorem TokRow.kept {w w' : World} {B : Nat} (hk : ∀ v ps, PartsOwn w B v ps → PartsOwn w' B v ps) : ∀ {ts : List TokL} {xs : List Value}, TokRow w B ts xs → TokRow w' B ts xs := by
  intro ts
  induction ts with
  | nil => intro xs h; exact h
  | cons a ts ih => intro xs h; obtain ⟨av, rest, rfl, ha, hr⟩ := h; exact ⟨av, rest, rfl, hk _ _ ha, ih hr⟩

/-- The lexer at block b: where it stands, and the tokens that it has. -/
structure LexSt (w : World) (b : Nat) (s : ByteArray) (k : Nat) (tv : Value) (ts : List TokL) (xs : List Value) : Prop where
  rd : Rd w b s k
  tok : w.cell? ⟨b, 2, none⟩ = some tv
  free : w.frozen? ⟨b, 2, none⟩ = false
  own : w.ownsRow (b + 1) 128 5 tv ts.length xs
  row : TokRow w (b + 1) ts xs
  few : ts.length ≤ k
  le : k ≤ s.size

theorem info_tok : (Tryz.prog.info? 128).map (fun i => (i.zero, i.size, i.bytes)) = some (some (.agg #[.int .i64 0, .string ⟨#[]⟩, .int .i64 0, .slice none 0 0, .int .i64 0]), 5, 64) := by kernel_rfl

def tokAt (s : ByteArray) (k : Nat) : Option (TokL × Nat) :=
  if startsB (pk s k) then (if nameOk s k then some (⟨3, s.extract k (nameTo s k), 0, [], k⟩, nameTo s k) else none)
  else if digitB (pk s k) then (if numB (s.extract k (runTo digitB s k)) then some (⟨1, ⟨#[]⟩, numV (s.extract k (runTo digitB s k)), [], k⟩, runTo digitB s k) else none)
  else if pk s k = 34 then (match partsTo s (k + 1) [] [] with | some (ps, k') => some (⟨2, ⟨#[]⟩, 0, ps, k⟩, k') | none => none)
  else if signOk s k then some (⟨4, s.extract k (signTo s k), 0, [], k⟩, signTo s k) else none

def NextPost (b : Nat) (s : ByteArray) (k : Nat) (ts : List TokL) (w : World) (e : Ending) (w' : World) : Prop :=
  match tokAt s k with
  | some (t, k') => e = .returned (.bool true) ∧ Below b w w' ∧ ∃ tv' xs', LexSt w' b s k' tv' (ts ++ [t]) xs'
  | none => e = .returned (.bool false) ∧ Below b w w'

/-- The token's own block. -/
def TokBlk (w : World) (g : Nat) (a c d e f : Value) : Prop := w.heap[g]? = some (.cells #[a, c, d, e, f] 128 (0, 0))
theorem TokBlk.lt {w : World} {g : Nat} {a c d e f : Value} (h : TokBlk w g a c d e f) : g < w.heap.size := (Array.getElem?_eq_some_iff.1 h).1
theorem TokBlk.adv {w w' : World} {b g : Nat} {a c d e f : Value} (h : TokBlk w g a c d e f) (ha : Adv b w w') (hb : g ≠ b) : TokBlk w' g a c d e f := (ha.block g h.lt hb).trans h
theorem TokBlk.below {w w' : World} {g : Nat} {a c d e f : Value} (h : TokBlk w g a c d e f) (ha : Below w.heap.size w w') : TokBlk w' g a c d e f := (ha.block g h.lt).trans h
theorem TokBlk.cells {w : World} {g : Nat} {a c d e f : Value} (h : TokBlk w g a c d e f) :
    w.cell? ⟨g, 0, none⟩ = some a ∧ w.cell? ⟨g, 1, none⟩ = some c ∧ w.cell? ⟨g, 2, none⟩ = some d ∧ w.cell? ⟨g, 3, none⟩ = some e ∧ w.cell? ⟨g, 4, none⟩ = some f := by
  have h : w.heap[g]? = some (.cells #[a, c, d, e, f] 128 (0, 0)) := h
  exact ⟨cell_of_row w g 0 _ _ _ h, cell_of_row w g 1 _ _ _ h, cell_of_row w g 2 _ _ _ h, cell_of_row w g 3 _ _ _ h, cell_of_row w g 4 _ _ _ h⟩
theorem TokBlk.free {w : World} {g : Nat} {a c d e f : Value} (h : TokBlk w g a c d e f) (o : Nat) : w.frozen? ⟨g, o, none⟩ = false := by
  have h : w.heap[g]? = some (.cells #[a, c, d, e, f] 128 (0, 0)) := h
  simp [World.frozen?, h]
theorem TokBlk.set0 {w : World} {g : Nat} {a c d e f : Value} (h : TokBlk w g a c d e f) (v : Value) : TokBlk (w.setCell ⟨g, 0, none⟩ v) g v c d e f := heap_setCell_same w g 0 _ _ v h
theorem TokBlk.set1 {w : World} {g : Nat} {a c d e f : Value} (h : TokBlk w g a c d e f) (v : Value) : TokBlk (w.setCell ⟨g, 1, none⟩ v) g a v d e f := heap_setCell_same w g 1 _ _ v h
theorem TokBlk.set2 {w : World} {g : Nat} {a c d e f : Value} (h : TokBlk w g a c d e f) (v : Value) : TokBlk (w.setCell ⟨g, 2, none⟩ v) g a c v e f := heap_setCell_same w g 2 _ _ v h
theorem TokBlk.set3 {w : World} {g : Nat} {a c d e f : Value} (h : TokBlk w g a c d e f) (v : Value) : TokBlk (w.setCell ⟨g, 3, none⟩ v) g a c d v f := heap_setCell_same w g 3 _ _ v h
theorem TokBlk.new (w : World) (a c d e f : Value) : TokBlk (w.alloc (.cells #[a, c, d, e, f] 128)) w.heap.size a c d e f := heap_alloc_new w _

theorem Adv.setNew {b : Nat} {x y : World} (h : Adv b x y) {p : Addr} (hp : x.heap.size ≤ p.block) (hb : b < x.heap.size) (v : Value) : Adv b x (y.setCell p v) :=
  ⟨h.os, h.tape, h.output, by simpa [World.setCell] using h.size,
    fun i hi hne => (Below.heap_setCell _ _ _ _ (by omega)).trans (h.block i hi hne),
    fun o ho => (World.cell?_setCell_other _ _ _ _ (by intro e; have : p.block = b := by rw [e]
                                                       omega)).trans (h.cell o ho), fun o => (World.frozen?_setCell ..).trans (h.frozen o)⟩
theorem Rd.setNew {w : World} {b k : Nat} {s : ByteArray} (h : Rd w b s k) {p : Addr} (hp : p.block ≠ b) (v : Value) : Rd (w.setCell p v) b s k :=
  ⟨(World.cell?_setCell_other _ _ _ _ (by intro e; exact hp (by rw [e]))).trans h.text, (World.cell?_setCell_other _ _ _ _ (by intro e; exact hp (by rw [e]))).trans h.at_, (World.frozen?_setCell ..).trans h.free⟩
theorem own_base {w : World} {B B' e z : Nat} {v : Value} {n : Nat} {xs : List Value} (h : w.ownsRow B e z v n xs) (hB : B' ≤ B) : w.ownsRow B' e z v n xs := by
  refine ⟨h.1, ?_⟩
  rcases h.2 with hn | ⟨g, cap, cur, rfl, hbg, r⟩
  · exact .inl hn
  · exact .inr ⟨g, cap, cur, rfl, Nat.le_trans hB hbg, r⟩
theorem own_set {w : World} {B e z : Nat} {v : Value} {n : Nat} {xs : List Value} (h : w.ownsRow B e z v n xs) {p : Addr} (hp : p.block < B) (u : Value) : (w.setCell p u).ownsRow B e z v n xs := ownsRow_setCell_below h hp u

theorem grown_drewL {x y : World} {row : Option Nat} (h : x.drew.grownBy y row) : x.grownBy y row := ⟨h.os, h.tape, h.output, h.size, h.block⟩
theorem own_shape {w : World} {B e z n : Nat} {v : Value} {xs : List Value} (h : w.ownsRow B e z v (n + 1) xs) : ∃ g cap, v = .slice (some ⟨g, 0, none⟩) (n + 1) cap := by
  rcases h.2 with ⟨_, h0⟩ | ⟨g, cap, cur, rfl, _⟩
  · omega
  · exact ⟨g, cap, rfl⟩
theorem kblock {w W w6 : World} {b k g : Nat} {s : ByteArray} {tv : Value} {ts : List TokL} {xs : List Value} {O : Obj} (H : LexSt w b s k tv ts xs) (A : Adv b w W) (hg : (W.alloc O).drew.grownBy w6 tv.ownBlock) (hgb : g = b ∨ w.heap.size ≤ g)
    (hl : g < W.heap.size) : w6.heap[g]? = W.heap[g]? := by
  have hb : b < w.heap.size := H.rd.lt
  have h1 : w6.heap[g]? = (W.alloc O).heap[g]? := hg.block g (by simp; omega) (fun e => by
    have h := World.ownsRow.lt H.own g e.symm
    rcases hgb with rfl | hgb <;> omega)
  rw [h1, Below.heap_alloc W O g hl]
theorem kcell {w W w6 : World} {b k g o : Nat} {s : ByteArray} {tv v : Value} {ts : List TokL} {xs : List Value} {O : Obj} (H : LexSt w b s k tv ts xs) (A : Adv b w W) (hg : (W.alloc O).drew.grownBy w6 tv.ownBlock) (hgb : g = b ∨ w.heap.size ≤ g)
    (hc : W.cell? ⟨g, o, none⟩ = some v) : w6.cell? ⟨g, o, none⟩ = some v :=
  (World.cell?_of_block (a := ⟨g, o, none⟩) (kblock H A hg hgb (World.block_lt_of_cell? W _ hc))).trans hc
theorem kfree {w W w6 : World} {b k o : Nat} {s : ByteArray} {tv : Value} {ts : List TokL} {xs : List Value} {O : Obj} (H : LexSt w b s k tv ts xs) (A : Adv b w W) (hg : (W.alloc O).drew.grownBy w6 tv.ownBlock)
    (hc : W.frozen? ⟨b, o, none⟩ = false) : w6.frozen? ⟨b, o, none⟩ = false :=
  (World.frozen?_of_block (a := ⟨b, o, none⟩) (kblock H A hg (.inl rfl) (Nat.lt_of_lt_of_le H.rd.lt A.size))).trans hc
theorem tok_far {w W w6 : World} {b k : Nat} {s : ByteArray} {tv : Value} {ts : List TokL} {xs : List Value} (H : LexSt w b s k tv ts xs) (A : Adv b w W) (hg : W.grownBy w6 tv.ownBlock) : w6.heap[b]? = W.heap[b]? := by
  have hb : b < w.heap.size := H.rd.lt
  exact hg.block b (Nat.lt_of_lt_of_le hb A.size) (fun e => by have := (World.ownsRow.lt H.own b e.symm).1; omega)

/-- What the end of next leaves, where the token counts. -/
theorem tail_done {w W w6 : World} {b k k' : Nat} {s : ByteArray} {tv pv v' : Value} {ts : List TokL} {xs : List Value} {t : TokL} (H : LexSt w b s k tv ts xs) (A : Adv b w W) (R : Rd W b s k') (h1 : k < k') (h2 : k' ≤ s.size)
    (P : PartsOwn W (b + 1) pv t.parts) (hown : w6.ownsRow (b + 1) 128 5 v' (ts.length + 1) (xs ++ tokCells t pv)) (hg : W.grownBy w6 tv.ownBlock) :
    Below b w (w6.setCell ⟨b, 2, none⟩ v') ∧ LexSt (w6.setCell ⟨b, 2, none⟩ v') b s k' v' (ts ++ [t]) (xs ++ tokCells t pv) := by
  have hb : b < w.heap.size := H.rd.lt
  have hrow : ∀ k, tv.ownBlock = some k → b + 1 ≤ k := fun k hk => (World.ownsRow.lt H.own k hk).1
  have R6 : Rd w6 b s k' := R.grown hg hrow (Nat.lt_succ_self b)
  have ho : W.ownsRow (b + 1) 128 5 tv ts.length xs := own_adv H.own A (Nat.lt_succ_self b)
  have hne : w6.heap[b]? = W.heap[b]? := hg.block b R.lt (fun e => by have := hrow b e.symm; omega)
  have hkeep : ∀ v ps, PartsOwn w (b + 1) v ps → PartsOwn (w6.setCell ⟨b, 2, none⟩ v') (b + 1) v ps := fun v ps hp => by
    have hp1 : PartsOwn W (b + 1) v ps := own_adv hp A (Nat.lt_succ_self b)
    exact own_set (World.ownsRow.kept hp1 hg (own_apart hp1 ho (by decide))) (Nat.lt_succ_self b) _
  have hc : w6.cell? ⟨b, 2, none⟩ = some tv := (World.cell?_of_block (a := ⟨b, 2, none⟩) hne).trans ((A.cell 2 (by omega)).trans H.tok)
  refine ⟨Below.setCell (p := ⟨b, 2, none⟩) (Below.grown (A.to_below (Nat.le_refl b) (Nat.le_of_lt hb)) hg (Nat.le_of_lt R.lt) (fun k hk => by have := hrow k hk; omega)) (Nat.le_refl b) _, ?_⟩
  refine ⟨?_, ?_, ?_, ?_, ?_, ?_, h2⟩
  · exact ⟨(World.cell?_setCell_other _ _ _ _ (by simp)).trans R6.text, (World.cell?_setCell_other _ _ _ _ (by simp)).trans R6.at_, (World.frozen?_setCell ..).trans R6.free⟩
  · exact World.cell?_setCell_same _ _ _ hc
  · exact (World.frozen?_setCell ..).trans ((World.frozen?_of_block (a := ⟨b, 2, none⟩) hne).trans ((A.frozen 2).trans H.free))
  · rw [List.length_append]; exact own_set hown (Nat.lt_succ_self b) _
  · exact TokRow.snoc (TokRow.kept hkeep H.row) (own_set (World.ownsRow.kept P hg (own_apart P ho (by decide))) (Nat.lt_succ_self b) _)
  · have := H.few; simp; omega
theorem tail_fail {w W w6 : World} {b k : Nat} {s : ByteArray} {tv v' : Value} {ts : List TokL} {xs : List Value} (H : LexSt w b s k tv ts xs) (A : Adv b w W) (hg : W.grownBy w6 tv.ownBlock) :
    Below b w (w6.setCell ⟨b, 2, none⟩ v') := by
  have hb : b < w.heap.size := H.rd.lt
  have hrow : ∀ k, tv.ownBlock = some k → b + 1 ≤ k := fun k hk => (World.ownsRow.lt H.own k hk).1
  exact Below.setCell (p := ⟨b, 2, none⟩) (Below.grown (A.to_below (Nat.le_refl b) (Nat.le_of_lt hb)) hg (by have := A.size; omega) (fun k hk => by have := hrow k hk; omega)) (Nat.le_refl b) _

theorem partsAt_gt (s : ByteArray) : ∀ n k ps pl r k', partsAt s n k ps pl = some (r, k') → k < k' ∧ k' ≤ s.size := by
  intro n
  induction n with
  | zero => intro k ps pl r k' h; simp [partsAt] at h
  | succ n ih =>
    intro k ps pl r k' h
    rw [partsAt] at h
    split at h
    · rename_i ht
      have := tkB_lt ht
      simp at h
      omega
    · split at h
      · split at h
        · rename_i hr
          have := ih _ _ _ _ _ h
          have := refTo_ok hr
          omega
        · simp at h
      · split at h
        · rename_i hr
          have := ih _ _ _ _ _ h
          have := charTo_ok hr
          omega
        · simp at h
theorem partsTo_gt {s : ByteArray} {k : Nat} {r : List PartL} {k' : Nat} (h : partsTo s (k + 1) [] [] = some (r, k')) : k < k' ∧ k' ≤ s.size := by
  have := partsAt_gt s _ _ _ _ _ _ h
  omega
theorem signTo_ok {s : ByteArray} {k : Nat} (hk : k < s.size) : k < signTo s k ∧ signTo s k ≤ s.size := by
  unfold signTo
  split
  · rename_i h
    have : ∃ i, i < 6 ∧ isAt s (twoSign i) k = true := by
      unfold twoOk at h
      simp only [Bool.or_eq_true] at h
      rcases h with ((((h | h) | h) | h) | h) | h
      · exact ⟨0, by omega, h⟩
      · exact ⟨1, by omega, h⟩
      · exact ⟨2, by omega, h⟩
      · exact ⟨3, by omega, h⟩
      · exact ⟨4, by omega, h⟩
      · exact ⟨5, by omega, h⟩
    obtain ⟨i, _, hi⟩ := this
    have := isAt_le hi
    rw [twoSize] at this
    omega
  · rw [rdTo_in hk]; omega
theorem nameTo_gt {s : ByteArray} {k : Nat} (hk : k < s.size) (h : startsB (pk s k) = true) : k < nameTo s k := by
  unfold nameTo
  rw [if_pos h]
  exact runTo_gt hk (by simp [inNameB, h])
section
variable (b k : Nat) (s : ByteArray) (w : World)
set_option maxHeartbeats 8000000 in
set_option maxRecDepth 20000 in
theorem next_any (tv : Value) (ts : List TokL) (xs : List Value) (h : LexSt w b s k tv ts xs) (hs : s.size ≤ 6000) (hk : k < s.size) (hv : ErrVar w) (hvb : 3 < b) :
    Calls Tryz.prog 83 #[.pointer (some ⟨b, 0, none⟩)] w (NextPost b s k ts w) := by
  have HL := Lib.hid (len_ok hs)
  have HS6 := Lib.hid hs
  have H48 := Lib.hid (show s.size ≤ 281474976710656 by omega)
  have HK := Lib.hid hk
  have V := Lib.hid hv
  have VB := Lib.hid hvb
  have H := Lib.hid h
  have HB := Lib.hid h.rd.lt
  have hb := h.rd.lt
  obtain ⟨⟨g0, g1, g2⟩, g3, g4, -, -, -, -⟩ := h
  have q1 := pk_lo s k
  have q2 := pk_hi s k
  clear hs hk hv hvb
  cases c1 : startsB (pk s k)
  · have C1 := Lib.hid c1
    cases c2 : digitB (pk s k)
    · have C2 := Lib.hid c2
      by_cases c3 : pk s k = 34
      · cases c4 : partsTo s (k + 1) [] [] with
        | none =>
          have hta : tokAt s k = none := by rw [tokAt, c1, c2, if_pos c3, c4]; rfl
          have TA := Lib.hid hta
          have hpp : ∀ W e W', PartsPost b s (k + 1) W e W' → e = .returned (.tuple #[.slice none 0 0, .bool false]) ∧ Adv b W W' := fun W e W' h => by unfold PartsPost at h; rw [c4] at h; exact h
          have PP := Lib.hid hpp
          have TQ := Lib.hid (show tkB s k 34 = true by simp [tkB, HK.out, c3])
          have g34 : (pk s k == 34) = true := by simpa using c3
          clear c1 c2 c3 c4 hta hpp
          go_enter Tryz.func83, Tryz.ntmps83
          go_wp2_with fail
          have B0 := Lib.hid (show Below w.heap.size w (w.alloc (.cells #[.int .i64 0, .string ⟨#[]⟩, .int .i64 0, .slice none 0 0, .int .i64 k] 128)) from (Below.refl _ _).alloc (Nat.le_refl _) _)
          have T0 := Lib.hid (TokBlk.new w (.int .i64 0) (.string ⟨#[]⟩) (.int .i64 0) (.slice none 0 0) (.int .i64 k))
          refine (peek_any b k s _ (H.out.rd.below B0.out) HL.out).mono ?_
          rintro e w1 ⟨rfl, n1, rfl⟩
          go_wp2_with fail
          refine (starts_any _ _ q1 q2).mono ?_
          rw [C1.out]
          rintro e w2 ⟨rfl, rfl⟩
          go_wp2_with fail
          refine (digit_any _ _ q1 q2).mono ?_
          rw [C2.out]
          rintro e w3 ⟨rfl, rfl⟩
          go_wp2_with fail
          have A1 := Lib.hid (show Adv b w (((w.alloc (.cells #[.int .i64 0, .string ⟨#[]⟩, .int .i64 0, .slice none 0 0, .int .i64 k] 128)).drewN n1).setCell ⟨w.heap.size, 0, none⟩ (.int .i64 2)) from Adv.setNew (p := ⟨w.heap.size, 0, none⟩) (((Adv.refl b w).below HB.out B0.out).drewN n1) (Nat.le_refl _) HB.out _)
          have T1 := Lib.hid (show TokBlk (((w.alloc (.cells #[.int .i64 0, .string ⟨#[]⟩, .int .i64 0, .slice none 0 0, .int .i64 k] 128)).drewN n1).setCell ⟨w.heap.size, 0, none⟩ (.int .i64 2)) w.heap.size (.int .i64 2) (.string ⟨#[]⟩) (.int .i64 0) (.slice none 0 0) (.int .i64 k) from TokBlk.set0 (w := (w.alloc (.cells #[.int .i64 0, .string ⟨#[]⟩, .int .i64 0, .slice none 0 0, .int .i64 k] 128)).drewN n1) T0.out _)
          have R1 := Lib.hid (show Rd (((w.alloc (.cells #[.int .i64 0, .string ⟨#[]⟩, .int .i64 0, .slice none 0 0, .int .i64 k] 128)).drewN n1).setCell ⟨w.heap.size, 0, none⟩ (.int .i64 2)) b s k from Rd.setNew (p := ⟨w.heap.size, 0, none⟩) ((H.out.rd.below B0.out).drewN n1) (Nat.ne_of_gt HB.out) _)
          refine (parts_any b k s _ R1.out H.out.le HS6.out TQ.out).mono ?_
          intro e w2 hpost
          obtain ⟨rfl, ha2⟩ := PP.out _ _ _ hpost
          have A3 := Lib.hid ((A1.out.trans ha2).setNew (p := ⟨w.heap.size, 3, none⟩) (Nat.le_refl _) HB.out (.slice none 0 0))
          have T2 := Lib.hid (T1.out.adv ha2 (Nat.ne_of_gt HB.out))
          have T3 := Lib.hid ((T1.out.adv ha2 (Nat.ne_of_gt HB.out)).set3 (.slice none 0 0))
          clear hpost ha2
          obtain ⟨t0, t1, t2, t3, t4⟩ := T2.out.cells
          have tf := T2.out.free 3
          clear T2
          go_wp2_with fail
          clear t0 t1 t2 t3 t4 tf
          generalize hwz : w2.setCell ⟨w.heap.size, 3, none⟩ (.slice none 0 0) = wz at *
          clear hwz
          obtain ⟨t0, t1, t2, t3, t4⟩ := T3.out.cells
          have g3' : wz.cell? ⟨b, 2, none⟩ = some tv := (A3.out.cell 2 (by omega)).trans g3
          have g4' : wz.frozen? ⟨b, 2, none⟩ = false := (A3.out.frozen 2).trans g4
          have HS := Lib.hid A3.out.size
          clear g0 g1 g2 g3 g4
          obtain ⟨i0, hi0, hz0, hz1, hz2⟩ := info_parts info_tok
          have lb := Nat.lt_of_lt_of_le HB.out A3.out.size
          have lT := T3.out.lt
          have HF := Lib.hid (show ts.length + 1 ≤ maxLen ∧ (ts.length + 1) * 64 ≤ 140737488355328 by have := H.out.few; have := H.out.le; have := HS6.out; unfold maxLen; omega)
          have HW := Lib.hid (show b + 1 ≤ wz.heap.size + 1 by omega)
          go_region_law (first | (refine step_append_lies _ (by rfl) _ _ _ (by rfl) (b + 1) 128 i0 _ 5 64 Tryz.underlying124 hi0 hz0 hz1 hz2 rfl (by omega) tv ts.length xs (by rfl) (by exact (World.ownsRow.alloc (own_adv H.out.own A3.out (Nat.lt_succ_self b)) _)) ⟨wz.heap.size, 0, none⟩ 1 1 [.int .i64 2, .string ⟨#[]⟩, .int .i64 0, (.slice none 0 0), .int .i64 k] (by rfl) (by rfl) (by exact (news_new wz #[.int .i64 2, .string ⟨#[]⟩, .int .i64 0, (.slice none 0 0), .int .i64 k] 128)) (by simp [Value.oneCell']) (by omega) HF.out.1 HF.out.2 (by simp; omega) (wz.heap.size + 1) (by simp) ?_; intro gg cc w6 hown' hgrow hat hlt; have g36 : w6.cell? ⟨b, 2, none⟩ = some tv := kcell H.out A3.out hgrow (.inl rfl) g3'; have g46 : w6.frozen? ⟨b, 2, none⟩ = false := kfree H.out A3.out hgrow g4'))
          all_goals (have HO := Lib.hid hown'; have hg6 := grown_trans (World.grownBy_alloc wz _ _) (grown_drewL hgrow); have HG := Lib.hid hg6; clear hown' hgrow hg6 t0 t1 t2 t3 t4 g3' g4')
          all_goals go_wp2
          all_goals go_ret
          all_goals (show NextPost b s k ts w _ _)
          all_goals unfold NextPost
          all_goals rw [TA.out]
          all_goals exact ⟨rfl, tail_fail H.out A3.out HG.out⟩
        | some pk' =>
          obtain ⟨ps, k'⟩ := pk'
          have hta : tokAt s k = some (⟨2, ⟨#[]⟩, 0, ps, k⟩, k') := by rw [tokAt, c1, c2, if_pos c3, c4]; rfl
          have TA := Lib.hid hta
          have hpp : ∀ W e W', PartsPost b s (k + 1) W e W' → ∃ pv, e = .returned (.tuple #[pv, .bool true]) ∧ Rd W' b s k' ∧ Adv b W W' ∧ PartsOwn W' W.heap.size pv ps := fun W e W' h => by unfold PartsPost at h; rw [c4] at h; exact h
          have PP := Lib.hid hpp
          have TQ := Lib.hid (show tkB s k 34 = true by simp [tkB, HK.out, c3])
          have GE := Lib.hid (partsTo_gt c4)
          have g34 : (pk s k == 34) = true := by simpa using c3
          clear c1 c2 c3 c4 hta hpp
          go_enter Tryz.func83, Tryz.ntmps83
          go_wp2_with fail
          have B0 := Lib.hid (show Below w.heap.size w (w.alloc (.cells #[.int .i64 0, .string ⟨#[]⟩, .int .i64 0, .slice none 0 0, .int .i64 k] 128)) from (Below.refl _ _).alloc (Nat.le_refl _) _)
          have T0 := Lib.hid (TokBlk.new w (.int .i64 0) (.string ⟨#[]⟩) (.int .i64 0) (.slice none 0 0) (.int .i64 k))
          refine (peek_any b k s _ (H.out.rd.below B0.out) HL.out).mono ?_
          rintro e w1 ⟨rfl, n1, rfl⟩
          go_wp2_with fail
          refine (starts_any _ _ q1 q2).mono ?_
          rw [C1.out]
          rintro e w2 ⟨rfl, rfl⟩
          go_wp2_with fail
          refine (digit_any _ _ q1 q2).mono ?_
          rw [C2.out]
          rintro e w3 ⟨rfl, rfl⟩
          go_wp2_with fail
          have A1 := Lib.hid (show Adv b w (((w.alloc (.cells #[.int .i64 0, .string ⟨#[]⟩, .int .i64 0, .slice none 0 0, .int .i64 k] 128)).drewN n1).setCell ⟨w.heap.size, 0, none⟩ (.int .i64 2)) from Adv.setNew (p := ⟨w.heap.size, 0, none⟩) (((Adv.refl b w).below HB.out B0.out).drewN n1) (Nat.le_refl _) HB.out _)
          have T1 := Lib.hid (show TokBlk (((w.alloc (.cells #[.int .i64 0, .string ⟨#[]⟩, .int .i64 0, .slice none 0 0, .int .i64 k] 128)).drewN n1).setCell ⟨w.heap.size, 0, none⟩ (.int .i64 2)) w.heap.size (.int .i64 2) (.string ⟨#[]⟩) (.int .i64 0) (.slice none 0 0) (.int .i64 k) from TokBlk.set0 (w := (w.alloc (.cells #[.int .i64 0, .string ⟨#[]⟩, .int .i64 0, .slice none 0 0, .int .i64 k] 128)).drewN n1) T0.out _)
          have R1 := Lib.hid (show Rd (((w.alloc (.cells #[.int .i64 0, .string ⟨#[]⟩, .int .i64 0, .slice none 0 0, .int .i64 k] 128)).drewN n1).setCell ⟨w.heap.size, 0, none⟩ (.int .i64 2)) b s k from Rd.setNew (p := ⟨w.heap.size, 0, none⟩) ((H.out.rd.below B0.out).drewN n1) (Nat.ne_of_gt HB.out) _)
          refine (parts_any b k s _ R1.out H.out.le HS6.out TQ.out).mono ?_
          intro e w2 hpost
          obtain ⟨pv, rfl, hr2, ha2, hp2⟩ := PP.out _ _ _ hpost
          obtain ⟨pao, pn, pcap, rfl⟩ := own_slice hp2
          have R3 := Lib.hid (hr2.setNew (p := ⟨w.heap.size, 3, none⟩) (Nat.ne_of_gt HB.out) (.slice pao pn pcap))
          have A3 := Lib.hid ((A1.out.trans ha2).setNew (p := ⟨w.heap.size, 3, none⟩) (Nat.le_refl _) HB.out (.slice pao pn pcap))
          have T2 := Lib.hid (T1.out.adv ha2 (Nat.ne_of_gt HB.out))
          have T3 := Lib.hid ((T1.out.adv ha2 (Nat.ne_of_gt HB.out)).set3 (.slice pao pn pcap))
          have P3 := Lib.hid (own_base (own_set hp2 (p := ⟨w.heap.size, 3, none⟩) T1.out.lt (.slice pao pn pcap)) (by have := A1.out.size; have := HB.out; omega : b + 1 ≤ _))
          have GT := Lib.hid (show k < k' from GE.out.1)
          have K2 := Lib.hid (show k' ≤ s.size from GE.out.2)
          clear hpost ha2 hr2 hp2
          obtain ⟨t0, t1, t2, t3, t4⟩ := T2.out.cells
          have tf := T2.out.free 3
          clear T2
          go_wp2_with fail
          clear t0 t1 t2 t3 t4 tf
          generalize hwz : w2.setCell ⟨w.heap.size, 3, none⟩ (.slice pao pn pcap) = wz at *
          clear hwz
          obtain ⟨t0, t1, t2, t3, t4⟩ := T3.out.cells
          have g3' : wz.cell? ⟨b, 2, none⟩ = some tv := (A3.out.cell 2 (by omega)).trans g3
          have g4' : wz.frozen? ⟨b, 2, none⟩ = false := (A3.out.frozen 2).trans g4
          have HS := Lib.hid A3.out.size
          clear g0 g1 g2 g3 g4
          obtain ⟨i0, hi0, hz0, hz1, hz2⟩ := info_parts info_tok
          have lb := Nat.lt_of_lt_of_le HB.out A3.out.size
          have lT := T3.out.lt
          have HF := Lib.hid (show ts.length + 1 ≤ maxLen ∧ (ts.length + 1) * 64 ≤ 140737488355328 by have := H.out.few; have := H.out.le; have := HS6.out; unfold maxLen; omega)
          have HW := Lib.hid (show b + 1 ≤ wz.heap.size + 1 by omega)
          go_region_law (first | (refine step_append_lies _ (by rfl) _ _ _ (by rfl) (b + 1) 128 i0 _ 5 64 Tryz.underlying124 hi0 hz0 hz1 hz2 rfl (by omega) tv ts.length xs (by rfl) (by exact (World.ownsRow.alloc (own_adv H.out.own A3.out (Nat.lt_succ_self b)) _)) ⟨wz.heap.size, 0, none⟩ 1 1 [.int .i64 2, .string ⟨#[]⟩, .int .i64 0, (.slice pao pn pcap), .int .i64 k] (by rfl) (by rfl) (by exact (news_new wz #[.int .i64 2, .string ⟨#[]⟩, .int .i64 0, (.slice pao pn pcap), .int .i64 k] 128)) (by simp [Value.oneCell']) (by omega) HF.out.1 HF.out.2 (by simp; omega) (wz.heap.size + 1) (by simp) ?_; intro gg cc w6 hown' hgrow hat hlt; have g36 : w6.cell? ⟨b, 2, none⟩ = some tv := kcell H.out A3.out hgrow (.inl rfl) g3'; have g46 : w6.frozen? ⟨b, 2, none⟩ = false := kfree H.out A3.out hgrow g4'))
          all_goals (have HO := Lib.hid hown'; have hg6 := grown_trans (World.grownBy_alloc wz _ _) (grown_drewL hgrow); have HG := Lib.hid hg6; clear hown' hgrow hg6 t0 t1 t2 t3 t4 g3' g4')
          all_goals go_wp2
          all_goals go_ret
          all_goals (show NextPost b s k ts w _ _)
          all_goals unfold NextPost
          all_goals rw [TA.out]
          all_goals (obtain ⟨f1, f2⟩ := tail_done (t := ⟨2, ⟨#[]⟩, 0, ps, k⟩) H.out A3.out R3.out GT.out K2.out P3.out HO.out HG.out)
          all_goals exact ⟨rfl, f1, _, _, f2⟩
      · have hta : tokAt s k = if signOk s k then some (⟨4, s.extract k (signTo s k), 0, [], k⟩, signTo s k) else none := by rw [tokAt, c1, c2, if_neg c3]; rfl
        have TA := Lib.hid hta
        have KLE := Lib.hid (Nat.le_of_lt (signTo_ok HK.out).1)
        have K2 := Lib.hid (signTo_ok HK.out).2
        have GT := Lib.hid (signTo_ok HK.out).1
        have g34 : (pk s k == 34) = false := by simpa using c3
        clear c1 c2 c3 hta
        go_enter Tryz.func83, Tryz.ntmps83
        go_wp2_with fail
        have B0 := Lib.hid (show Below w.heap.size w (w.alloc (.cells #[.int .i64 0, .string ⟨#[]⟩, .int .i64 0, .slice none 0 0, .int .i64 k] 128)) from (Below.refl _ _).alloc (Nat.le_refl _) _)
        have T0 := Lib.hid (TokBlk.new w (.int .i64 0) (.string ⟨#[]⟩) (.int .i64 0) (.slice none 0 0) (.int .i64 k))
        refine (peek_any b k s _ (H.out.rd.below B0.out) HL.out).mono ?_
        rintro e w1 ⟨rfl, n1, rfl⟩
        go_wp2_with fail
        refine (starts_any _ _ q1 q2).mono ?_
        rw [C1.out]
        rintro e w2 ⟨rfl, rfl⟩
        go_wp2_with fail
        refine (digit_any _ _ q1 q2).mono ?_
        rw [C2.out]
        rintro e w3 ⟨rfl, rfl⟩
        go_wp2_with fail
        have A1 := Lib.hid (show Adv b w (((w.alloc (.cells #[.int .i64 0, .string ⟨#[]⟩, .int .i64 0, .slice none 0 0, .int .i64 k] 128)).drewN n1).setCell ⟨w.heap.size, 0, none⟩ (.int .i64 4)) from Adv.setNew (p := ⟨w.heap.size, 0, none⟩) (((Adv.refl b w).below HB.out B0.out).drewN n1) (Nat.le_refl _) HB.out _)
        have T1 := Lib.hid (show TokBlk (((w.alloc (.cells #[.int .i64 0, .string ⟨#[]⟩, .int .i64 0, .slice none 0 0, .int .i64 k] 128)).drewN n1).setCell ⟨w.heap.size, 0, none⟩ (.int .i64 4)) w.heap.size (.int .i64 4) (.string ⟨#[]⟩) (.int .i64 0) (.slice none 0 0) (.int .i64 k) from TokBlk.set0 (w := (w.alloc (.cells #[.int .i64 0, .string ⟨#[]⟩, .int .i64 0, .slice none 0 0, .int .i64 k] 128)).drewN n1) T0.out _)
        have R1 := Lib.hid (show Rd (((w.alloc (.cells #[.int .i64 0, .string ⟨#[]⟩, .int .i64 0, .slice none 0 0, .int .i64 k] 128)).drewN n1).setCell ⟨w.heap.size, 0, none⟩ (.int .i64 4)) b s k from Rd.setNew (p := ⟨w.heap.size, 0, none⟩) ((H.out.rd.below B0.out).drewN n1) (Nat.ne_of_gt HB.out) _)
        refine (sign_any b k s _ R1.out H.out.le HS6.out).mono ?_
        rintro e w2 ⟨rfl, hr2, ha2⟩
        have R2 := Lib.hid hr2
        have A2 := Lib.hid (A1.out.trans ha2)
        have T2 := Lib.hid (T1.out.adv ha2 (Nat.ne_of_gt HB.out))
        clear hr2 ha2
        obtain ⟨t0, t1, t2, t3, t4⟩ := T2.out.cells
        have tf := T2.out.free 1
        go_wp2_with fail
        go_still_tail 5, (by kernel_rfl)
        change wpList _ _ _ _ _ w2.drew
        go_wp2_with fail
        refine (since_any b _ s _ k KLE.out (R2.out.drewN 1) K2.out H48.out).mono ?_
        generalize htx : s.extract k (signTo s k) = tx at *
        rintro e w3 ⟨rfl, hb3⟩
        have hb3 := below_drewL hb3
        have R3 := Lib.hid ((R2.out.below hb3).setNew (p := ⟨w.heap.size, 1, none⟩) (Nat.ne_of_gt HB.out) (.string tx))
        have A3 := Lib.hid ((A2.out.below HB.out hb3).setNew (p := ⟨w.heap.size, 1, none⟩) (Nat.le_refl _) HB.out (.string tx))
        have T3' := Lib.hid (T2.out.below hb3)
        have T3 := Lib.hid ((T2.out.below hb3).set1 (.string tx))
        clear hb3 t0 t1 t2 t3 t4 tf
        obtain ⟨t0, t1, t2, t3, t4⟩ := T3'.out.cells
        have tf := T3'.out.free 1
        clear T3'
        go_wp2_with fail
        clear t0 t1 t2 t3 t4 tf
        generalize hwz : w3.setCell ⟨w.heap.size, 1, none⟩ (.string tx) = wz at *
        clear hwz
        obtain ⟨t0, t1, t2, t3, t4⟩ := T3.out.cells
        have g3' : wz.cell? ⟨b, 2, none⟩ = some tv := (A3.out.cell 2 (by omega)).trans g3
        have g4' : wz.frozen? ⟨b, 2, none⟩ = false := (A3.out.frozen 2).trans g4
        have HS := Lib.hid A3.out.size
        clear g0 g1 g2 g3 g4
        obtain ⟨i0, hi0, hz0, hz1, hz2⟩ := info_parts info_tok
        have lb := Nat.lt_of_lt_of_le HB.out A3.out.size
        have lT := T3.out.lt
        have HF := Lib.hid (show ts.length + 1 ≤ maxLen ∧ (ts.length + 1) * 64 ≤ 140737488355328 by have := H.out.few; have := H.out.le; have := HS6.out; unfold maxLen; omega)
        have HW := Lib.hid (show b + 1 ≤ wz.heap.size + 1 by omega)
        go_region_law (first | (refine step_append_lies _ (by rfl) _ _ _ (by rfl) (b + 1) 128 i0 _ 5 64 Tryz.underlying124 hi0 hz0 hz1 hz2 rfl (by omega) tv ts.length xs (by rfl) (by exact (World.ownsRow.alloc (own_adv H.out.own A3.out (Nat.lt_succ_self b)) _)) ⟨wz.heap.size, 0, none⟩ 1 1 [.int .i64 4, .string tx, .int .i64 0, (.slice none 0 0), .int .i64 k] (by rfl) (by rfl) (by exact (news_new wz #[.int .i64 4, .string tx, .int .i64 0, (.slice none 0 0), .int .i64 k] 128)) (by simp [Value.oneCell']) (by omega) HF.out.1 HF.out.2 (by simp; omega) (wz.heap.size + 1) (by simp) ?_; intro gg cc w6 hown' hgrow hat hlt; have g36 : w6.cell? ⟨b, 2, none⟩ = some tv := kcell H.out A3.out hgrow (.inl rfl) g3'; have g46 : w6.frozen? ⟨b, 2, none⟩ = false := kfree H.out A3.out hgrow g4'))
        all_goals (have HO := Lib.hid hown'; have hg6 := grown_trans (World.grownBy_alloc wz _ _) (grown_drewL hgrow); have HG := Lib.hid hg6; clear hown' hgrow hg6 t0 t1 t2 t3 t4 g3' g4')
        all_goals go_wp2
        all_goals go_ret
        all_goals (show NextPost b s k ts w _ _)
        all_goals unfold NextPost
        all_goals rw [TA.out]
        all_goals cases hok : signOk s k
        all_goals first
          | exact ⟨rfl, tail_fail H.out A3.out HG.out⟩
          | (obtain ⟨f1, f2⟩ := tail_done (t := ⟨4, tx, 0, [], k⟩) H.out A3.out R3.out GT.out K2.out (World.ownsRow_nil _ _ _ _) HO.out HG.out
             exact ⟨rfl, f1, _, _, f2⟩)
    · have C2 := Lib.hid c2
      have hta : tokAt s k = if numB (s.extract k (runTo digitB s k)) then some (⟨1, ⟨#[]⟩, numV (s.extract k (runTo digitB s k)), [], k⟩, runTo digitB s k) else none := by rw [tokAt, c1, c2]; rfl
      have TA := Lib.hid hta
      have K2 := Lib.hid (runTo_le (p := digitB) (Nat.le_of_lt HK.out))
      have GT := Lib.hid (runTo_gt HK.out c2)
      clear c1 c2 hta
      go_enter Tryz.func83, Tryz.ntmps83
      go_wp2_with fail
      have B0 := Lib.hid (show Below w.heap.size w (w.alloc (.cells #[.int .i64 0, .string ⟨#[]⟩, .int .i64 0, .slice none 0 0, .int .i64 k] 128)) from (Below.refl _ _).alloc (Nat.le_refl _) _)
      have T0 := Lib.hid (TokBlk.new w (.int .i64 0) (.string ⟨#[]⟩) (.int .i64 0) (.slice none 0 0) (.int .i64 k))
      refine (peek_any b k s _ (H.out.rd.below B0.out) HL.out).mono ?_
      rintro e w1 ⟨rfl, n1, rfl⟩
      go_wp2_with fail
      refine (starts_any _ _ q1 q2).mono ?_
      rw [C1.out]
      rintro e w2 ⟨rfl, rfl⟩
      go_wp2_with fail
      refine (digit_any _ _ q1 q2).mono ?_
      rw [C2.out]
      rintro e w3 ⟨rfl, rfl⟩
      go_wp2_with fail
      have A1 := Lib.hid (show Adv b w (((w.alloc (.cells #[.int .i64 0, .string ⟨#[]⟩, .int .i64 0, .slice none 0 0, .int .i64 k] 128)).drewN n1).setCell ⟨w.heap.size, 0, none⟩ (.int .i64 1)) from Adv.setNew (p := ⟨w.heap.size, 0, none⟩) (((Adv.refl b w).below HB.out B0.out).drewN n1) (Nat.le_refl _) HB.out _)
      have T1 := Lib.hid (show TokBlk (((w.alloc (.cells #[.int .i64 0, .string ⟨#[]⟩, .int .i64 0, .slice none 0 0, .int .i64 k] 128)).drewN n1).setCell ⟨w.heap.size, 0, none⟩ (.int .i64 1)) w.heap.size (.int .i64 1) (.string ⟨#[]⟩) (.int .i64 0) (.slice none 0 0) (.int .i64 k) from TokBlk.set0 (w := (w.alloc (.cells #[.int .i64 0, .string ⟨#[]⟩, .int .i64 0, .slice none 0 0, .int .i64 k] 128)).drewN n1) T0.out _)
      have R1 := Lib.hid (show Rd (((w.alloc (.cells #[.int .i64 0, .string ⟨#[]⟩, .int .i64 0, .slice none 0 0, .int .i64 k] 128)).drewN n1).setCell ⟨w.heap.size, 0, none⟩ (.int .i64 1)) b s k from Rd.setNew (p := ⟨w.heap.size, 0, none⟩) ((H.out.rd.below B0.out).drewN n1) (Nat.ne_of_gt HB.out) _)
      refine (number_any b k s _ R1.out H.out.le HS6.out (V.out.adv A1.out VB.out) VB.out C2.out HK.out).mono ?_
      generalize hnv : numV (s.extract k (runTo digitB s k)) = nv at *
      generalize hnb : numB (s.extract k (runTo digitB s k)) = nb at *
      rintro e w2 ⟨rfl, hr2, ha2⟩
      have R3 := Lib.hid (hr2.setNew (p := ⟨w.heap.size, 2, none⟩) (Nat.ne_of_gt HB.out) (.int .i64 nv))
      have A3 := Lib.hid ((A1.out.trans ha2).setNew (p := ⟨w.heap.size, 2, none⟩) (Nat.le_refl _) HB.out (.int .i64 nv))
      have T2 := Lib.hid (T1.out.adv ha2 (Nat.ne_of_gt HB.out))
      have T3 := Lib.hid ((T1.out.adv ha2 (Nat.ne_of_gt HB.out)).set2 (.int .i64 nv))
      clear hr2 ha2 hnv hnb
      obtain ⟨t0, t1, t2, t3, t4⟩ := T2.out.cells
      have tf := T2.out.free 2
      clear T2
      go_wp2_with fail
      clear t0 t1 t2 t3 t4 tf
      generalize hwz : w2.setCell ⟨w.heap.size, 2, none⟩ (.int .i64 nv) = wz at *
      clear hwz
      obtain ⟨t0, t1, t2, t3, t4⟩ := T3.out.cells
      have g3' : wz.cell? ⟨b, 2, none⟩ = some tv := (A3.out.cell 2 (by omega)).trans g3
      have g4' : wz.frozen? ⟨b, 2, none⟩ = false := (A3.out.frozen 2).trans g4
      have HS := Lib.hid A3.out.size
      clear g0 g1 g2 g3 g4
      obtain ⟨i0, hi0, hz0, hz1, hz2⟩ := info_parts info_tok
      have lb := Nat.lt_of_lt_of_le HB.out A3.out.size
      have lT := T3.out.lt
      have HF := Lib.hid (show ts.length + 1 ≤ maxLen ∧ (ts.length + 1) * 64 ≤ 140737488355328 by have := H.out.few; have := H.out.le; have := HS6.out; unfold maxLen; omega)
      have HW := Lib.hid (show b + 1 ≤ wz.heap.size + 1 by omega)
      go_region_law (first | (refine step_append_lies _ (by rfl) _ _ _ (by rfl) (b + 1) 128 i0 _ 5 64 Tryz.underlying124 hi0 hz0 hz1 hz2 rfl (by omega) tv ts.length xs (by rfl) (by exact (World.ownsRow.alloc (own_adv H.out.own A3.out (Nat.lt_succ_self b)) _)) ⟨wz.heap.size, 0, none⟩ 1 1 [.int .i64 1, .string ⟨#[]⟩, .int .i64 nv, (.slice none 0 0), .int .i64 k] (by rfl) (by rfl) (by exact (news_new wz #[.int .i64 1, .string ⟨#[]⟩, .int .i64 nv, (.slice none 0 0), .int .i64 k] 128)) (by simp [Value.oneCell']) (by omega) HF.out.1 HF.out.2 (by simp; omega) (wz.heap.size + 1) (by simp) ?_; intro gg cc w6 hown' hgrow hat hlt; have g36 : w6.cell? ⟨b, 2, none⟩ = some tv := kcell H.out A3.out hgrow (.inl rfl) g3'; have g46 : w6.frozen? ⟨b, 2, none⟩ = false := kfree H.out A3.out hgrow g4'))
      all_goals (have HO := Lib.hid hown'; have hg6 := grown_trans (World.grownBy_alloc wz _ _) (grown_drewL hgrow); have HG := Lib.hid hg6; clear hown' hgrow hg6 t0 t1 t2 t3 t4 g3' g4')
      all_goals go_wp2
      all_goals go_ret
      all_goals (show NextPost b s k ts w _ _)
      all_goals unfold NextPost
      all_goals rw [TA.out]
      all_goals cases hok : nb
      all_goals first
        | exact ⟨rfl, tail_fail H.out A3.out HG.out⟩
        | (obtain ⟨f1, f2⟩ := tail_done (t := ⟨1, ⟨#[]⟩, nv, [], k⟩) H.out A3.out R3.out GT.out K2.out (World.ownsRow_nil _ _ _ _) HO.out HG.out
           exact ⟨rfl, f1, _, _, f2⟩)
  · have C1 := Lib.hid c1
    have hta : tokAt s k = if nameOk s k then some (⟨3, s.extract k (nameTo s k), 0, [], k⟩, nameTo s k) else none := by rw [tokAt, c1]; rfl
    have TA := Lib.hid hta
    have KLE := Lib.hid (le_nameTo s k)
    have K2 := Lib.hid (nameTo_le (Nat.le_of_lt HK.out))
    have GT := Lib.hid (nameTo_gt HK.out c1)
    clear c1 hta
    go_enter Tryz.func83, Tryz.ntmps83
    go_wp2_with fail
    have B0 := Lib.hid (show Below w.heap.size w (w.alloc (.cells #[.int .i64 0, .string ⟨#[]⟩, .int .i64 0, .slice none 0 0, .int .i64 k] 128)) from (Below.refl _ _).alloc (Nat.le_refl _) _)
    have T0 := Lib.hid (TokBlk.new w (.int .i64 0) (.string ⟨#[]⟩) (.int .i64 0) (.slice none 0 0) (.int .i64 k))
    refine (peek_any b k s _ (H.out.rd.below B0.out) HL.out).mono ?_
    rintro e w1 ⟨rfl, n1, rfl⟩
    go_wp2_with fail
    refine (starts_any _ _ q1 q2).mono ?_
    rw [C1.out]
    rintro e w2 ⟨rfl, rfl⟩
    go_wp2_with fail
    have A1 := Lib.hid (show Adv b w (((w.alloc (.cells #[.int .i64 0, .string ⟨#[]⟩, .int .i64 0, .slice none 0 0, .int .i64 k] 128)).drewN n1).setCell ⟨w.heap.size, 0, none⟩ (.int .i64 3)) from Adv.setNew (p := ⟨w.heap.size, 0, none⟩) (((Adv.refl b w).below HB.out B0.out).drewN n1) (Nat.le_refl _) HB.out _)
    have T1 := Lib.hid (show TokBlk (((w.alloc (.cells #[.int .i64 0, .string ⟨#[]⟩, .int .i64 0, .slice none 0 0, .int .i64 k] 128)).drewN n1).setCell ⟨w.heap.size, 0, none⟩ (.int .i64 3)) w.heap.size (.int .i64 3) (.string ⟨#[]⟩) (.int .i64 0) (.slice none 0 0) (.int .i64 k) from TokBlk.set0 (w := (w.alloc (.cells #[.int .i64 0, .string ⟨#[]⟩, .int .i64 0, .slice none 0 0, .int .i64 k] 128)).drewN n1) T0.out _)
    have R1 := Lib.hid (show Rd (((w.alloc (.cells #[.int .i64 0, .string ⟨#[]⟩, .int .i64 0, .slice none 0 0, .int .i64 k] 128)).drewN n1).setCell ⟨w.heap.size, 0, none⟩ (.int .i64 3)) b s k from Rd.setNew (p := ⟨w.heap.size, 0, none⟩) ((H.out.rd.below B0.out).drewN n1) (Nat.ne_of_gt HB.out) _)
    refine (name_any b k s _ R1.out H.out.le HL.out).mono ?_
    rintro e w2 ⟨rfl, hr2, ha2⟩
    have R2 := Lib.hid hr2
    have A2 := Lib.hid (A1.out.trans ha2)
    have T2 := Lib.hid (T1.out.adv ha2 (Nat.ne_of_gt HB.out))
    clear hr2 ha2
    obtain ⟨t0, t1, t2, t3, t4⟩ := T2.out.cells
    have tf := T2.out.free 1
    go_wp2_with fail
    go_still_tail 5, (by kernel_rfl)
    change wpList _ _ _ _ _ w2.drew
    go_wp2_with fail
    refine (since_any b _ s _ k KLE.out (R2.out.drewN 1) K2.out H48.out).mono ?_
    generalize htx : s.extract k (nameTo s k) = tx at *
    rintro e w3 ⟨rfl, hb3⟩
    have hb3 := below_drewL hb3
    have R3 := Lib.hid ((R2.out.below hb3).setNew (p := ⟨w.heap.size, 1, none⟩) (Nat.ne_of_gt HB.out) (.string tx))
    have A3 := Lib.hid ((A2.out.below HB.out hb3).setNew (p := ⟨w.heap.size, 1, none⟩) (Nat.le_refl _) HB.out (.string tx))
    have T3' := Lib.hid (T2.out.below hb3)
    have T3 := Lib.hid ((T2.out.below hb3).set1 (.string tx))
    clear hb3 t0 t1 t2 t3 t4 tf
    obtain ⟨t0, t1, t2, t3, t4⟩ := T3'.out.cells
    have tf := T3'.out.free 1
    clear T3'
    go_wp2_with fail
    clear t0 t1 t2 t3 t4 tf
    generalize hwz : w3.setCell ⟨w.heap.size, 1, none⟩ (.string tx) = wz at *
    clear hwz
    obtain ⟨t0, t1, t2, t3, t4⟩ := T3.out.cells
    have g3' : wz.cell? ⟨b, 2, none⟩ = some tv := (A3.out.cell 2 (by omega)).trans g3
    have g4' : wz.frozen? ⟨b, 2, none⟩ = false := (A3.out.frozen 2).trans g4
    have HS := Lib.hid A3.out.size
    clear g0 g1 g2 g3 g4
    obtain ⟨i0, hi0, hz0, hz1, hz2⟩ := info_parts info_tok
    have lb := Nat.lt_of_lt_of_le HB.out A3.out.size
    have lT := T3.out.lt
    have HF := Lib.hid (show ts.length + 1 ≤ maxLen ∧ (ts.length + 1) * 64 ≤ 140737488355328 by have := H.out.few; have := H.out.le; have := HS6.out; unfold maxLen; omega)
    have HW := Lib.hid (show b + 1 ≤ wz.heap.size + 1 by omega)
    go_region_law (first | (refine step_append_lies _ (by rfl) _ _ _ (by rfl) (b + 1) 128 i0 _ 5 64 Tryz.underlying124 hi0 hz0 hz1 hz2 rfl (by omega) tv ts.length xs (by rfl) (by exact (World.ownsRow.alloc (own_adv H.out.own A3.out (Nat.lt_succ_self b)) _)) ⟨wz.heap.size, 0, none⟩ 1 1 [.int .i64 3, .string tx, .int .i64 0, (.slice none 0 0), .int .i64 k] (by rfl) (by rfl) (by exact (news_new wz #[.int .i64 3, .string tx, .int .i64 0, (.slice none 0 0), .int .i64 k] 128)) (by simp [Value.oneCell']) (by omega) HF.out.1 HF.out.2 (by simp; omega) (wz.heap.size + 1) (by simp) ?_; intro gg cc w6 hown' hgrow hat hlt; have g36 : w6.cell? ⟨b, 2, none⟩ = some tv := kcell H.out A3.out hgrow (.inl rfl) g3'; have g46 : w6.frozen? ⟨b, 2, none⟩ = false := kfree H.out A3.out hgrow g4'))
    all_goals (have HO := Lib.hid hown'; have hg6 := grown_trans (World.grownBy_alloc wz _ _) (grown_drewL hgrow); have HG := Lib.hid hg6; clear hown' hgrow hg6 t0 t1 t2 t3 t4 g3' g4')
    all_goals go_wp2
    all_goals go_ret
    all_goals (show NextPost b s k ts w _ _)
    all_goals unfold NextPost
    all_goals rw [TA.out]
    all_goals cases hok : nameOk s k
    all_goals first
      | exact ⟨rfl, tail_fail H.out A3.out HG.out⟩
      | (obtain ⟨f1, f2⟩ := tail_done (t := ⟨3, tx, 0, [], k⟩) H.out A3.out R3.out GT.out K2.out (World.ownsRow_nil _ _ _ _) HO.out HG.out
         exact ⟨rfl, f1, _, _, f2⟩)
end
end Go.Proofs.YtndeihmclecmcaaGreatDoor
namespace Go.Proofs.YtndeihmclecmcaaGreatDoor
open Go.RowKit
set_option linter.unusedVariables false
set_option linter.unusedSimpArgs false

theorem skipAt_ok (s : ByteArray) : ∀ n k, k ≤ s.size → k ≤ skipAt s n k ∧ skipAt s n k ≤ s.size := by
  intro n
  induction n with
  | zero => intro k h; simp [skipAt, h]
  | succ n ih =>
    intro k h
    rw [skipAt]
    split
    · rename_i hk
      split
      · have := ih (k + 1) (by omega); omega
      · split
        · have h1 := le_runTo inLineB s k
          have h2 := runTo_le (p := inLineB) h
          have := ih _ h2; omega
        · omega
    · omega
theorem skipTo_ok {s : ByteArray} {k : Nat} (h : k ≤ s.size) : k ≤ skipTo s k ∧ skipTo s k ≤ s.size := skipAt_ok s _ k h
theorem tokAt_gt {s : ByteArray} {k : Nat} (hk : k < s.size) {t : TokL} {k' : Nat} (h : tokAt s k = some (t, k')) : k < k' ∧ k' ≤ s.size := by
  unfold tokAt at h
  split at h
  · rename_i hs
    split at h
    · simp at h
      have := nameTo_gt hk hs
      have := nameTo_le (Nat.le_of_lt hk)
      omega
    · simp at h
  · split at h
    · rename_i hd
      split at h
      · simp at h
        have := runTo_gt hk hd
        have := runTo_le (p := digitB) (Nat.le_of_lt hk)
        omega
      · simp at h
    · split at h
      · split at h
        · rename_i hp
          simp at h
          have := partsTo_gt hp
          omega
        · simp at h
      · split at h
        · simp at h
          have := signTo_ok hk
          omega
        · simp at h
/-- The tokens from a place on at which neither a blank nor a remark stands. -/
def lexAt (s : ByteArray) : Nat → Nat → List TokL → Option (List TokL)
  | 0, _, ts => some ts
  | n + 1, j, ts => if j < s.size then (match tokAt s j with | some (t, k') => lexAt s n (skipTo s k') (ts ++ [t]) | none => none) else some ts
theorem lexAt_more (s : ByteArray) : ∀ n m j ts, s.size - j ≤ n → s.size - j ≤ m → lexAt s n j ts = lexAt s m j ts := by
  intro n
  induction n with
  | zero =>
    intro m j ts h1 h2
    have hj : ¬ j < s.size := by omega
    cases m <;> simp [lexAt, hj]
  | succ n ih =>
    intro m j ts h1 h2
    by_cases hj : j < s.size
    · obtain ⟨m, rfl⟩ : ∃ m', m = m' + 1 := ⟨m - 1, by omega⟩
      simp only [lexAt, hj, if_true]
      cases ht : tokAt s j with
      | none => rfl
      | some tk =>
        obtain ⟨t, k'⟩ := tk
        have h3 := tokAt_gt hj ht
        have h4 := skipTo_ok h3.2
        exact ih m _ _ (by omega) (by omega)
    · cases m <;> simp [lexAt, hj]
def lexTo (s : ByteArray) (j : Nat) (ts : List TokL) : Option (List TokL) := lexAt s s.size j ts
theorem lexTo_end {s : ByteArray} {j : Nat} {ts : List TokL} (h : ¬ j < s.size) : lexTo s j ts = some ts := by
  unfold lexTo; cases s.size <;> simp [lexAt, h]
theorem lexTo_step {s : ByteArray} {j : Nat} {ts : List TokL} (h : j < s.size) {t : TokL} {k' : Nat} (ht : tokAt s j = some (t, k')) : lexTo s j ts = lexTo s (skipTo s k') (ts ++ [t]) := by
  unfold lexTo
  rw [lexAt_more s s.size (s.size + 1) j ts (by omega) (by omega), lexAt, if_pos h, ht]
theorem lexTo_none {s : ByteArray} {j : Nat} {ts : List TokL} (h : j < s.size) (ht : tokAt s j = none) : lexTo s j ts = none := by
  unfold lexTo
  rw [lexAt_more s s.size (s.size + 1) j ts (by omega) (by omega), lexAt, if_pos h, ht]
/-- Lex: its error, its tokens. -/
def lexE (s : ByteArray) : Int := if 6000 < s.size then 4 else match lexTo s (skipTo s 0) [] with | some _ => 0 | none => 5
def lexT (s : ByteArray) : List TokL := if 6000 < s.size then [] else match lexTo s (skipTo s 0) [] with | some ts => ts ++ [⟨0, ⟨#[]⟩, 0, [], s.size⟩] | none => []

theorem LexSt.adv {w w' : World} {b k k' : Nat} {s : ByteArray} {tv : Value} {ts : List TokL} {xs : List Value} (h : LexSt w b s k tv ts xs) (ha : Adv b w w') (hr : Rd w' b s k') (h1 : k ≤ k') (h2 : k' ≤ s.size) : LexSt w' b s k' tv ts xs :=
  ⟨hr, (ha.cell 2 (by omega)).trans h.tok, (ha.frozen 2).trans h.free, own_adv h.own ha (Nat.lt_succ_self b), TokRow.kept (fun v ps hp => own_adv hp ha (Nat.lt_succ_self b)) h.row, Nat.le_trans h.few h1, h2⟩
theorem LexSt.drewN {w : World} {b k : Nat} {s : ByteArray} {tv : Value} {ts : List TokL} {xs : List Value} (h : LexSt w b s k tv ts xs) (n : Nat) : LexSt (w.drewN n) b s k tv ts xs :=
  h.adv (Adv.drawn b w n) (h.rd.drewN n) (Nat.le_refl _) h.le

theorem TokRow.turn {w w' : World} {B B' : Nat} (hk : ∀ v ps, PartsOwn w B v ps → PartsOwn w' B' v ps) : ∀ {ts : List TokL} {xs : List Value}, TokRow w B ts xs → TokRow w' B' ts xs := by
  intro ts
  induction ts with
  | nil => intro xs h; exact h
  | cons a ts ih => intro xs h; obtain ⟨av, rest, rfl, ha, hr⟩ := h; exact ⟨av, rest, rfl, hk _ _ ha, ih hr⟩
theorem lex_done {w wr w6 : World} {s : ByteArray} {j : Nat} {tv v' : Value} {ts : List TokL} {xs : List Value} {O : Obj} (H : LexSt wr w.heap.size s j tv ts xs) (HB : Below w.heap.size w wr) (t : TokL) (ht : t.parts = [])
    (hown : w6.ownsRow w.heap.size 128 5 v' (ts.length + 1) (xs ++ tokCells t (.slice none 0 0))) (hgrow : (wr.alloc O).grownBy w6 tv.ownBlock) :
    Below w.heap.size w w6 ∧ w6.ownsRow w.heap.size 128 5 v' (ts ++ [t]).length (xs ++ tokCells t (.slice none 0 0)) ∧ TokRow w6 w.heap.size (ts ++ [t]) (xs ++ tokCells t (.slice none 0 0)) := by
  have hg := grown_trans (World.grownBy_alloc wr O tv.ownBlock) hgrow
  have hrow : ∀ k, tv.ownBlock = some k → w.heap.size ≤ k := fun k hk => Nat.le_of_succ_le (World.ownsRow.lt H.own k hk).1
  refine ⟨HB.grown hg HB.size hrow, by rw [List.length_append]; exact hown, ?_⟩
  refine TokRow.snoc (TokRow.turn (fun v ps hp => own_base (World.ownsRow.kept hp hg (own_apart hp H.own (by decide))) (Nat.le_succ _)) H.row) ?_
  rw [ht]; exact World.ownsRow_nil _ _ _ _

/-- What Lex leaves. -/
def LexPost (s : ByteArray) (w : World) (e : Ending) (w' : World) : Prop :=
  ∃ v xs, e = .returned (.tuple #[v, .int .i64 (lexE s)]) ∧ Below w.heap.size w w' ∧ w'.ownsRow w.heap.size 128 5 v (lexT s).length xs ∧ TokRow w' w.heap.size (lexT s) xs
def LexRel (b : Nat) (s : ByteArray) (w : World) (m : Nat) (wr : World) : Prop :=
  ∃ j tv ts xs, s.size - j ≤ m ∧ lexTo s j ts = lexTo s (skipTo s 0) [] ∧ LexSt wr b s j tv ts xs ∧ Below b w wr
def newLexer (s : ByteArray) : Obj := .cells #[.string s, .int .i64 0, .slice none 0 0] 160
theorem LexSt.new (s : ByteArray) (w : World) : LexSt (w.alloc (newLexer s)) w.heap.size s 0 (.slice none 0 0) [] [] := by
  have h : (w.alloc (newLexer s)).heap[w.heap.size]? = some (.cells #[.string s, .int .i64 0, .slice none 0 0] 160 (0, 0)) := heap_alloc_new w _
  refine ⟨⟨cell_of_row _ _ 0 _ _ _ h, cell_of_row _ _ 1 _ _ _ h, by unfold World.frozen?; rw [h]; rfl⟩, cell_of_row _ _ 2 _ _ _ h, by unfold World.frozen?; rw [h]; rfl, World.ownsRow_nil _ _ _ _, rfl, Nat.le_refl _, Nat.zero_le _⟩

section
variable (s : ByteArray) (w : World)
set_option maxHeartbeats 8000000 in
set_option maxRecDepth 20000 in
theorem lex_any (hs : s.size ≤ maxLen) (hv : ErrVar w) :
    Calls Tryz.prog 61 #[.string s] w (LexPost s w) := by
  have hvl := hv.lt
  have VL := Lib.hid hvl
  have V := Lib.hid hv
  have HL := Lib.hid hs
  unfold maxLen at hs
  by_cases h6 : 6000 < s.size
  · have e1 : lexE s = 4 := by simp [lexE, h6]
    have e2 : lexT s = [] := by simp [lexT, h6]
    have E1 := Lib.hid e1
    have E2 := Lib.hid e2
    clear e1 e2 hv hvl
    go_enter Tryz.func61, Tryz.ntmps61
    go_wp2_with fail
    go_ret2
    exact ⟨.slice none 0 0, [], by rw [E1.out]; rfl, Below.refl _ _, by rw [E2.out]; exact World.ownsRow_nil _ _ _ _, by rw [E2.out]; rfl⟩
  · have e1 : lexE s = match lexTo s (skipTo s 0) [] with | some _ => 0 | none => 5 := by simp only [lexE, if_neg h6]
    have e2 : lexT s = match lexTo s (skipTo s 0) [] with | some ts => ts ++ [⟨0, ⟨#[]⟩, 0, [], s.size⟩] | none => [] := by simp only [lexT, if_neg h6]
    have E1 := Lib.hid e1
    have E2 := Lib.hid e2
    have HS6 := Lib.hid (show s.size ≤ 6000 by omega)
    have hd6 : decide (6000 < (s.size : Int)) = false := by simp; omega
    have N0 := Lib.hid (LexSt.new s w)
    have B0 := Lib.hid (show Below w.heap.size w (w.alloc (newLexer s)) from (Below.refl _ _).alloc (Nat.le_refl _) _)
    have SK := Lib.hid (skipTo_ok (Nat.zero_le s.size))
    clear e1 e2 hv hvl hs
    go_enter Tryz.func61, Tryz.ntmps61
    go_wp2_with fail
    refine (skip_any w.heap.size 0 s (w.alloc (newLexer s)) N0.out.rd (Nat.zero_le _) HS6.out).mono ?_
    rintro e w1 ⟨rfl, hr1, ha1⟩
    have N1 := Lib.hid (N0.out.adv ha1 hr1 SK.out.1 SK.out.2)
    have B1 := Lib.hid (B0.out.trans (ha1.to_below (Nat.le_refl _) B0.out.size))
    clear hr1 ha1
    go_wp2_with fail
    go_loopg [] (s.size - skipTo s 0) (fun m wr => LexRel w.heap.size s w m wr)
    case atStart => exact ⟨skipTo s 0, _, [], [], Nat.le_refl _, rfl, N1.out, B1.out⟩
    case round =>
      obtain ⟨j, tv, ts, xs, hm, he, hl, hb⟩ := hrel
      have HM := Lib.hid hm
      have HE := Lib.hid he
      have HLX := Lib.hid hl
      have HB := Lib.hid hb
      clear hm he hl hb
      by_cases hj : j < s.size
      · have HJ := Lib.hid hj
        cases ht : tokAt s j with
        | none =>
          have LN := Lib.hid ((lexTo_none (ts := ts) hj ht).symm.trans HE.out)
          have hnp : ∀ W e W', NextPost w.heap.size s j ts W e W' → e = .returned (.bool false) ∧ Below w.heap.size W W' := fun W e W' h => by unfold NextPost at h; rw [ht] at h; exact h
          have NP := Lib.hid hnp
          clear hj ht hnp
          go_wp2_with fail
          refine (done_no w.heap.size j s wr HLX.out.rd HL.out HJ.out).mono ?_
          rintro e w2 ⟨rfl, n2, rfl⟩
          go_wp2_with fail
          refine (next_any w.heap.size j s (wr.drewN n2) tv ts xs (HLX.out.drewN n2) HS6.out HJ.out (ErrVar.below V.out (below_drewN HB.out n2) VL.out) VL.out).mono ?_
          intro e w3 hpost
          obtain ⟨rfl, hb3⟩ := NP.out _ _ _ hpost
          have B3 := Lib.hid ((below_drewN HB.out n2).trans hb3)
          clear hpost hb3
          go_wp2_with fail
          go_ret2
          exact ⟨.slice none 0 0, [], by rw [E1.out, ← LN.out]; rfl, B3.out, by rw [E2.out, ← LN.out]; exact World.ownsRow_nil _ _ _ _, by rw [E2.out, ← LN.out]; rfl⟩
        | some tk =>
          obtain ⟨t, k'⟩ := tk
          have LN := Lib.hid ((lexTo_step (ts := ts) hj ht).symm.trans HE.out)
          have hnp : ∀ W e W', NextPost w.heap.size s j ts W e W' → e = .returned (.bool true) ∧ Below w.heap.size W W' ∧ ∃ tv' xs', LexSt W' w.heap.size s k' tv' (ts ++ [t]) xs' := fun W e W' h => by unfold NextPost at h; rw [ht] at h; exact h
          have NP := Lib.hid hnp
          have KG := Lib.hid (tokAt_gt hj ht)
          clear hj ht hnp
          go_wp2_with fail
          refine (done_no w.heap.size j s wr HLX.out.rd HL.out HJ.out).mono ?_
          rintro e w2 ⟨rfl, n2, rfl⟩
          go_wp2_with fail
          refine (next_any w.heap.size j s (wr.drewN n2) tv ts xs (HLX.out.drewN n2) HS6.out HJ.out (ErrVar.below V.out (below_drewN HB.out n2) VL.out) VL.out).mono ?_
          intro e w3 hpost
          obtain ⟨rfl, hb3, tv', xs', hl3⟩ := NP.out _ _ _ hpost
          have B3 := Lib.hid ((below_drewN HB.out n2).trans hb3)
          have L3 := Lib.hid hl3
          have SK2 := Lib.hid (skipTo_ok KG.out.2)
          clear hpost hb3 hl3
          go_wp2_with fail
          refine (skip_any w.heap.size k' s w3 L3.out.rd KG.out.2 HS6.out).mono ?_
          rintro e w4 ⟨rfl, hr4, ha4⟩
          have L4 := Lib.hid (L3.out.adv ha4 hr4 SK2.out.1 SK2.out.2)
          have B4 := Lib.hid (B3.out.trans (ha4.to_below (Nat.le_refl _) B3.out.size))
          clear hr4 ha4
          go_wp2_with fail
          go_roundg (s.size - skipTo s k')
          case rel => exact ⟨skipTo s k', tv', ts ++ [t], xs', Nat.le_refl _, LN.out, L4.out, B4.out⟩
          case measure => have := HM.out; have := KG.out.1; have := SK2.out.1; have := HJ.out; omega
      · have HJ := Lib.hid hj
        have LN := Lib.hid ((lexTo_end (ts := ts) hj).symm.trans HE.out)
        have g3 := HLX.out.tok
        clear hj
        obtain ⟨i0, hi0, hz0, hz1, hz2⟩ := info_parts info_tok
        go_wp2_with fail
        refine (done_yes w.heap.size j s wr HLX.out.rd HL.out HJ.out).mono ?_
        rintro e w2 ⟨rfl, n2, rfl⟩
        have FEW := Lib.hid (show ts.length ≤ 6000 by have := HLX.out.few; have := HLX.out.le; have := HS6.out; omega)
        go_wp2_with (at_builtin; refine wpList_append_own _ rfl _ _ 124 rfl w.heap.size 128 i0 _ 5 64 Tryz.underlying124 hi0 hz0 hz1 hz2 rfl (by decide) tv ts.length xs rfl (by exact World.ownsRow.alloc (own_base HLX.out.own (Nat.le_succ _)) _) ⟨wr.heap.size, 0, none⟩ 1 1 [.int .i64 0, .string ⟨#[]⟩, .int .i64 0, .slice none 0 0, .int .i64 s.size] rfl rfl ?e1 ?e2 ?e3 ?e4 ?e5 ?_)
        case e1 => exact news_new wr #[.int .i64 0, .string ⟨#[]⟩, .int .i64 0, .slice none 0 0, .int .i64 s.size] 128
        case e2 => simp [Value.oneCell']
        case e3 => have := FEW.out; unfold maxLen; omega
        case e4 => have := FEW.out; omega
        case e5 => have := HB.out.size; simp; omega
        intro v' w6 hown' hgrow _
        have HO := Lib.hid hown'
        have HG := Lib.hid (show (wr.alloc (.cells #[.int .i64 0, .string ⟨#[]⟩, .int .i64 0, .slice none 0 0, .int .i64 s.size] 128)).grownBy w6 tv.ownBlock from ⟨hgrow.os, hgrow.tape, hgrow.output, hgrow.size, hgrow.block⟩)
        clear hown' hgrow
        go_wp2
        go_ret2
        obtain ⟨f1, f2, f3⟩ := lex_done HLX.out HB.out ⟨0, ⟨#[]⟩, 0, [], s.size⟩ rfl HO.out HG.out
        exact ⟨v', _, by rw [E1.out, ← LN.out]; rfl, f1, by rw [E2.out, ← LN.out]; exact f2, by rw [E2.out, ← LN.out]; exact f3⟩
end
end Go.Proofs.YtndeihmclecmcaaGreatDoor
namespace Go.Proofs.YtndeihmclecmcaaGreatDoor
open Go.RowKit
set_option linter.unusedVariables false
set_option linter.unusedSimpArgs false

/-- A slice value of n elements whose cells are xs. -/
def Rds (w : World) (v : Value) (n : Nat) (xs : List Value) : Prop :=
  ∃ ao cap, v = .slice ao n cap ∧ ∀ j u, xs[j]? = some u → ∃ g o, ao = some ⟨g, o, none⟩ ∧ w.cell? ⟨g, o + j, none⟩ = some u
def PartsRd (w : World) (v : Value) (ps : List PartL) : Prop := Rds w v ps.length (partCells ps)
def TokRd (w : World) : List TokL → List Value → Prop
  | [], xs => xs = []
  | t :: ts, xs => ∃ pv rest, xs = tokCells t pv ++ rest ∧ PartsRd w pv t.parts ∧ TokRd w ts rest
def ToksRd (w : World) (v : Value) (ts : List TokL) : Prop := ∃ xs, Rds w v ts.length xs ∧ TokRd w ts xs

theorem Rds.of_own {w : World} {B e z n : Nat} {v : Value} {xs : List Value} (h : w.ownsRow B e z v n xs) : Rds w v n xs := by
  have hc := fun g => World.ownsRow.cells (g := g) h
  rcases h.2 with ⟨rfl, h0⟩ | ⟨g, cap, cur, rfl, _⟩
  · refine ⟨none, 0, by rw [h0], fun j u hj => ?_⟩
    have hl := h.1
    rw [h0] at hl
    have : xs = [] := List.eq_nil_of_length_eq_zero (by simpa using hl)
    rw [this] at hj; simp at hj
  · refine ⟨some ⟨g, 0, none⟩, cap, rfl, fun j u hj => ⟨g, 0, rfl, ?_⟩⟩
    have := hc g rfl j u hj
    have hadd : (⟨g, 0, none⟩ : Addr).add j = ⟨g, 0 + j, none⟩ := by unfold Addr.add; split <;> simp_all
    rw [← hadd]; exact this
theorem Rds.below {w w' : World} {n : Nat} {v : Value} {xs : List Value} (h : Rds w v n xs) (hb : Below w.heap.size w w') : Rds w' v n xs := by
  obtain ⟨ao, cap, rfl, hc⟩ := h
  refine ⟨ao, cap, rfl, fun j u hj => ?_⟩
  obtain ⟨g, o, he, hw⟩ := hc j u hj
  exact ⟨g, o, he, (hb.cell (p := ⟨g, o + j, none⟩) (World.block_lt_of_cell? w _ hw)).trans hw⟩
theorem TokRd.of_row {w : World} {B : Nat} : ∀ {ts : List TokL} {xs : List Value}, TokRow w B ts xs → TokRd w ts xs := by
  intro ts
  induction ts with
  | nil => intro xs h; exact h
  | cons a ts ih => intro xs h; obtain ⟨av, rest, rfl, ha, hr⟩ := h; exact ⟨av, rest, rfl, Rds.of_own ha, ih hr⟩
theorem TokRd.below {w w' : World} (hb : Below w.heap.size w w') : ∀ {ts : List TokL} {xs : List Value}, TokRd w ts xs → TokRd w' ts xs := by
  intro ts
  induction ts with
  | nil => intro xs h; exact h
  | cons a ts ih => intro xs h; obtain ⟨av, rest, rfl, ha, hr⟩ := h; exact ⟨av, rest, rfl, Rds.below ha hb, ih hr⟩
theorem ToksRd.below {w w' : World} {v : Value} {ts : List TokL} (h : ToksRd w v ts) (hb : Below w.heap.size w w') : ToksRd w' v ts := by
  obtain ⟨xs, h1, h2⟩ := h; exact ⟨xs, h1.below hb, h2.below hb⟩
theorem TokRd.get {w : World} : ∀ {ts : List TokL} {xs : List Value}, TokRd w ts xs → ∀ {i : Nat} {t : TokL}, ts[i]? = some t → ∃ pv, PartsRd w pv t.parts ∧ ∀ j, j < 5 → xs[i * 5 + j]? = (tokCells t pv)[j]? := by
  intro ts
  induction ts with
  | nil => intro xs h i t hi; simp at hi
  | cons a ts ih =>
    intro xs h i t hi
    obtain ⟨av, rest, rfl, ha, hr⟩ := h
    cases i with
    | zero =>
      simp at hi; subst hi
      exact ⟨av, ha, fun j hj => by rw [List.getElem?_append_left (by simp [tokCells]; omega)]; simp⟩
    | succ i =>
      simp at hi
      obtain ⟨pv, hp, hx⟩ := ih hr hi
      refine ⟨pv, hp, fun j hj => ?_⟩
      rw [List.getElem?_append_right (by simp [tokCells]; omega), ← hx j hj]
      congr 1
      simp [tokCells]; omega
/-- One token of a list: where its cells lie. -/
structure TokIn (w : World) (g o : Nat) (t : TokL) (pv : Value) : Prop where
  kind : w.cell? ⟨g, o, none⟩ = some (.int .i64 t.kind)
  text : w.cell? ⟨g, o + 1, none⟩ = some (.string t.text)
  num : w.cell? ⟨g, o + 2, none⟩ = some (.int .i64 t.num)
  pv_ : w.cell? ⟨g, o + 3, none⟩ = some pv
  at_ : w.cell? ⟨g, o + 4, none⟩ = some (.int .i64 t.at_)
  parts : PartsRd w pv t.parts
theorem ToksRd.at {w : World} {v : Value} {ts : List TokL} (h : ToksRd w v ts) : ∃ ao cap, v = .slice ao ts.length cap ∧ ∀ i t, ts[i]? = some t → ∃ g o pv, ao = some ⟨g, o, none⟩ ∧ TokIn w g (o + i * 5) t pv := by
  obtain ⟨xs, ⟨ao, cap, rfl, hc⟩, ht⟩ := h
  refine ⟨ao, cap, rfl, fun i t hi => ?_⟩
  obtain ⟨pv, hp, hx⟩ := ht.get hi
  obtain ⟨g, o, he, h0⟩ := hc (i * 5) _ (by have := hx 0 (by omega); simpa [tokCells] using this)
  have hcell : ∀ j u, j < 5 → (tokCells t pv)[j]? = some u → w.cell? ⟨g, o + i * 5 + j, none⟩ = some u := by
    intro j u hj hu
    obtain ⟨g', o', he', h'⟩ := hc (i * 5 + j) u (by rw [hx j hj]; exact hu)
    rw [he] at he'
    simp at he'
    obtain ⟨rfl, rfl⟩ := he'
    rw [← Nat.add_assoc] at h'
    exact h'
  refine ⟨g, o, pv, he, ?_⟩
  exact ⟨hcell 0 _ (by omega) rfl, hcell 1 _ (by omega) rfl, hcell 2 _ (by omega) rfl, hcell 3 _ (by omega) rfl, hcell 4 _ (by omega) rfl, hp⟩

/-- What Lex leaves, as it is read. -/
def LexRdPost (s : ByteArray) (w : World) (e : Ending) (w' : World) : Prop :=
  ∃ v, e = .returned (.tuple #[v, .int .i64 (lexE s)]) ∧ Below w.heap.size w w' ∧ ToksRd w' v (lexT s)
theorem lex_rd (s : ByteArray) (w : World) (hs : s.size ≤ maxLen) (hv : ErrVar w) : Calls Tryz.prog 61 #[.string s] w (LexRdPost s w) :=
  (lex_any s w hs hv).mono fun e w' ⟨v, xs, he, hb, ho, hr⟩ => ⟨v, he, hb, xs, Rds.of_own ho, TokRd.of_row hr⟩
end Go.Proofs.YtndeihmclecmcaaGreatDoor
