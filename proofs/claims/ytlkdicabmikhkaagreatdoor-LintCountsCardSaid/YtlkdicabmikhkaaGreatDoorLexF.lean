/- The contracts of withPlain and of the lexer's parts. -/
import Derived.Test.YtlkdicabmikhkaaGreatDoorLexE
import Derived.Laws.BytesArg
namespace Go.Proofs.YtlkdicabmikhkaaGreatDoor
open Go.RowKit
set_option linter.unusedVariables false
set_option linter.unusedSimpArgs false

/-- A part of a text: is it a reference; its text. -/
abbrev PartL := Bool × ByteArray
def partCells (ps : List PartL) : List Value := ps.flatMap fun p => [.bool p.1, .string p.2]
theorem partCells_len (ps : List PartL) : (partCells ps).length = ps.length * 2 := by
  unfold partCells; induction ps with
  | nil => rfl
  | cons p ps ih => simp [List.flatMap_cons, ih]; omega
def PartsOwn (w : World) (B : Nat) (v : Value) (ps : List PartL) : Prop := w.ownsRow B 31 2 v ps.length (partCells ps)
def byteVals (l : List UInt8) : List Value := l.map fun c => .int .u8 (c.toNat : Int)
def PlainOwn (w : World) (B : Nat) (v : Value) (l : List UInt8) : Prop := w.ownsRow B 5 1 v l.length (byteVals l)
def withPl (ps : List PartL) (l : List UInt8) : List PartL := if l = [] then ps else ps ++ [(false, ⟨l.toArray⟩)]

theorem info_part : (Tryz.prog.info? 31).map (fun i => (i.zero, i.size, i.bytes)) = some (some (.agg #[.bool false, .string ⟨#[]⟩]), 2, 24) := by kernel_rfl
theorem info_byte : (Tryz.prog.info? 5).map (fun i => (i.zero, i.size, i.bytes)) = some (some (.int .u8 0), 1, 1) := by kernel_rfl

theorem partCells_snoc (ps : List PartL) (p : PartL) : partCells (ps ++ [p]) = partCells ps ++ [.bool p.1, .string p.2] := by simp [partCells]

/-- Rows of elements of two types lie in two blocks. -/
theorem own_apart {w : World} {B B' e e' z z' : Nat} {v v' : Value} {n n' : Nat} {xs xs' : List Value} (h : w.ownsRow B e z v n xs) (h' : w.ownsRow B' e' z' v' n' xs') (hne : e ≠ e') : v.ownBlock = none ∨ v.ownBlock ≠ v'.ownBlock := by
  rcases h.2 with ⟨rfl, _⟩ | ⟨g, cap, cur, rfl, _, hg, _⟩
  · exact .inl rfl
  · right
    rcases h'.2 with ⟨rfl, _⟩ | ⟨g', cap', cur', rfl, _, hg', _⟩
    · simp [Value.ownBlock]
    · intro he
      simp [Value.ownBlock] at he
      subst he
      rw [hg] at hg'
      simp at hg'
      exact hne hg'.2
theorem own_adv {w w' : World} {B e z b : Nat} {v : Value} {n : Nat} {xs : List Value} (h : w.ownsRow B e z v n xs) (ha : Adv b w w') (hb : b < B) : w'.ownsRow B e z v n xs := by
  refine ⟨h.1, ?_⟩
  rcases h.2 with hn | ⟨g, cap, cur, rfl, hbg, hg, r⟩
  · exact .inl hn
  · exact .inr ⟨g, cap, cur, rfl, hbg, (ha.block g (Array.getElem?_eq_some_iff.1 hg).1 (by omega)).trans hg, r⟩

/-- What withPlain leaves. -/
def WithPost (B : Nat) (pv : Value) (ps : List PartL) (l : List UInt8) (w : World) (e : Ending) (w' : World) : Prop :=
  ∃ v, e = .returned v ∧ PartsOwn w' B v (withPl ps l) ∧ w.grownBy w' pv.ownBlock

section
variable (w : World)
set_option maxRecDepth 20000 in
theorem withPlain_any (B : Nat) (pv bv : Value) (ps : List PartL) (l : List UInt8) (hp : PartsOwn w B pv ps) (hl : PlainOwn w B bv l) (hB : B ≤ w.heap.size) (hn : ps.length ≤ 6000) (hm : l.length ≤ 6000) :
    Calls Tryz.prog 91 #[pv, bv] w (WithPost B pv ps l w) := by
  have HP := Lib.hid hp
  obtain ⟨i0, hi0, hz0, hz1, hz2⟩ := info_parts info_part
  rcases hl.2 with ⟨rfl, h0⟩ | ⟨g, cap, cur, rfl, hbg, hg, hcap, hmax, hsz, htake⟩
  · have hl0 : l = [] := List.eq_nil_of_length_eq_zero h0
    subst hl0
    have e : withPl ps [] = ps := by simp [withPl]
    clear hl h0 hp
    go_enter Tryz.func91, Tryz.ntmps91
    go_wp2
    go_ret
    exact ⟨_, rfl, by rw [e]; exact HP.out, World.grownBy.refl w _⟩
  · by_cases hl0 : l = []
    · subst hl0
      have e : withPl ps [] = ps := by simp [withPl]
      clear hl hp hg htake hsz
      go_enter Tryz.func91, Tryz.ntmps91
      go_wp2
      go_ret
      exact ⟨_, rfl, by rw [e]; exact HP.out, World.grownBy.refl w _⟩
    · have e : withPl ps l = ps ++ [(false, ⟨l.toArray⟩)] := by simp [withPl, hl0]
      have E := Lib.hid e
      have hpos : l.length ≠ 0 := fun h => hl0 (List.eq_nil_of_length_eq_zero h)
      have ht : ((l.length : Int) == 0) = false := by simp; exact hl0
      have hcell : ∀ j (hj : j < l.length), w.cell? ((⟨g, 0, none⟩ : Addr).add j) = some (.int .u8 (l[j].toNat : Int)) := by
        intro j hj
        refine World.ownsRow.cells hl (g := g) rfl j _ ?_
        simp [byteVals, hj]
      have hconv := fun W (hW : ∀ j (hj : j < l.length), W.cell? ((⟨g, 0, none⟩ : Addr).add j) = some (.int .u8 (l[j].toNat : Int))) => run_convert_bytes_back (P := Tryz.prog) W 48 9 5 ⟨g, 0, none⟩ cap l Tryz.underlying48 Tryz.underlying5 Tryz.underlying9 hW
      have hcv := hconv w hcell
      have hm' : l.length ≤ 9223372036854775807 := by omega
      clear hconv hcell hl hp hg htake hsz e hl0 hpos hm
      go_enter Tryz.func91, Tryz.ntmps91
      go_wp2_with (at_builtin; refine wpList_append_own _ rfl _ _ 32 rfl B 31 i0 _ 2 24 Tryz.underlying32 hi0 hz0 hz1 hz2 rfl (by decide) pv ps.length (partCells ps) rfl (World.ownsRow.alloc HP.out _) ⟨w.heap.size, 0, none⟩ 1 1 [.bool false, .string ⟨l.toArray⟩] rfl rfl ?c1 ?c2 ?c3 ?c4 ?c5 ?_)
      case c1 => exact news_new w #[.bool false, .string ⟨l.toArray⟩] 31
      case c2 => simp [Value.oneCell']
      case c3 => unfold maxLen; omega
      case c4 => omega
      case c5 => simp; omega
      intro v' w1 hown' hgrow _
      have HO := Lib.hid hown'
      have HG := Lib.hid hgrow
      clear hown' hgrow
      go_wp2
      go_ret
      refine ⟨_, rfl, ?_, ?_⟩
      · rw [E.out]; unfold PartsOwn; rw [partCells_snoc, List.length_append]; exact HO.out
      · exact grown_trans (World.grownBy_alloc w _ _) HG.out
end

/-! ### What parts makes of a text, from behind its first sign on. -/
def dollar : ByteArray := ⟨#[36, 123]⟩
theorem pk_pos_lt {s : ByteArray} {k : Nat} (h : 0 < pk s k) : k < s.size := by
  unfold pk at h; split at h
  · assumption
  · omega
theorem rdTo_in {s : ByteArray} {k : Nat} (h : k < s.size) : rdTo s k = k + 1 := by simp [rdTo, h]
theorem charTo_ok {s : ByteArray} {k : Nat} (h : charOk s k = true) : k < charTo s k ∧ charTo s k ≤ s.size := by
  unfold charOk at h; unfold charTo
  cases ht : tkB s k 92
  · rw [ht] at h
    simp at h
    have := pk_pos_lt (s := s) (k := k) (by omega)
    simp [rdTo_in this]; omega
  · rw [ht] at h
    simp only [if_true] at h ⊢
    have h1 : k + 1 < s.size := by
      apply pk_pos_lt
      unfold escOk at h
      simp at h
      omega
    rw [rdTo_in h1]; omega
theorem charC_byte {s : ByteArray} {k : Nat} (h : charOk s k = true) : 0 ≤ charC s k ∧ charC s k ≤ 255 := by
  unfold charC escC
  have h1 := pk_lo s k
  have h2 := pk_hi s k
  have h3 := pk_lo s (k + 1)
  have h4 := pk_hi s (k + 1)
  split
  · split
    · omega
    · split <;> omega
  · omega
theorem isAt_le {s q : ByteArray} {k : Nat} (h : isAt s q k = true) : k + q.size ≤ s.size := by
  unfold isAt at h; simp at h; exact h.1
theorem refTo_ok {s : ByteArray} {k : Nat} (h : refB s k = true) : k < refTo s k ∧ refTo s k ≤ s.size := by
  unfold refB at h
  rw [Bool.and_eq_true] at h
  have e : refTo s k = tkTo s (refMid s k) 125 := by simp [refTo, h.1]
  rw [e, tkTo_yes h.2]
  have h2 := tkB_lt h.2
  have h1 : k ≤ refMid s k := by
    unfold refMid
    split
    · split
      · exact Nat.le_trans (le_nameTo s k) (Nat.le_trans (Nat.le_succ _) (le_nameTo _ _))
      · exact le_nameTo _ _
    · exact le_nameTo _ _
  omega
def byteOf (c : Int) : UInt8 := UInt8.ofNat c.toNat
theorem byteOf_val {c : Int} (h0 : 0 ≤ c) (h1 : c ≤ 255) : ((byteOf c).toNat : Int) = c := by
  unfold byteOf
  rw [UInt8.toNat_ofNat']
  omega
def partsAt (s : ByteArray) : Nat → Nat → List PartL → List UInt8 → Option (List PartL × Nat)
  | 0, _, _, _ => none
  | n + 1, k, ps, pl =>
    if tkB s k 34 then some (withPl ps pl, k + 1)
    else if isAt s dollar k then (if refB s (k + 2) then partsAt s n (refTo s (k + 2)) (withPl ps pl ++ [(true, s.extract (k + 2) (refMid s (k + 2)))]) [] else none)
    else if charOk s k then partsAt s n (charTo s k) ps (pl ++ [byteOf (charC s k)]) else none
theorem partsAt_more (s : ByteArray) : ∀ n m k ps pl, s.size < k + n → s.size < k + m → partsAt s n k ps pl = partsAt s m k ps pl := by
  intro n
  induction n with
  | zero =>
    intro m k ps pl h1 h2
    cases m with
    | zero => rfl
    | succ m =>
      have hk : ¬ k < s.size := by omega
      have a1 : tkB s k 34 = false := by simp [tkB, hk]
      have a2 : isAt s dollar k = false := by
        cases h : isAt s dollar k with
        | false => rfl
        | true => have := isAt_le h; have : dollar.size = 2 := rfl; omega
      have a3 : charOk s k = false := by
        cases h : charOk s k with
        | false => rfl
        | true => have := charTo_ok h; omega
      simp [partsAt, a1, a2, a3]
  | succ n ih =>
    intro m k ps pl h1 h2
    cases m with
    | zero =>
      have hk : ¬ k < s.size := by omega
      have a1 : tkB s k 34 = false := by simp [tkB, hk]
      have a2 : isAt s dollar k = false := by
        cases h : isAt s dollar k with
        | false => rfl
        | true => have := isAt_le h; have : dollar.size = 2 := rfl; omega
      have a3 : charOk s k = false := by
        cases h : charOk s k with
        | false => rfl
        | true => have := charTo_ok h; omega
      simp [partsAt, a1, a2, a3]
    | succ m =>
      simp only [partsAt]
      split
      · rfl
      · split
        · split
          · rename_i h
            have := refTo_ok h
            exact ih _ _ _ _ (by omega) (by omega)
          · rfl
        · split
          · rename_i h
            have := charTo_ok h
            exact ih _ _ _ _ (by omega) (by omega)
          · rfl
def partsTo (s : ByteArray) (k : Nat) (ps : List PartL) (pl : List UInt8) : Option (List PartL × Nat) := partsAt s (s.size + 1) k ps pl
theorem partsTo_eq (s : ByteArray) (k : Nat) (ps : List PartL) (pl : List UInt8) :
    partsTo s k ps pl = if tkB s k 34 then some (withPl ps pl, k + 1)
      else if isAt s dollar k then (if refB s (k + 2) then partsTo s (refTo s (k + 2)) (withPl ps pl ++ [(true, s.extract (k + 2) (refMid s (k + 2)))]) [] else none)
      else if charOk s k then partsTo s (charTo s k) ps (pl ++ [byteOf (charC s k)]) else none := by
  unfold partsTo
  rw [partsAt_more s (s.size + 1) (s.size + 2) k ps pl (by omega) (by omega)]
  rfl

theorem Adv.grown {b : Nat} {x y z : World} {row : Option Nat} (h : Adv b x y) (hb : b < x.heap.size) (hg : y.grownBy z row) (hr : ∀ k, row = some k → x.heap.size ≤ k) : Adv b x z :=
  ⟨hg.os.trans h.os, hg.tape.trans h.tape, hg.output.trans h.output, Nat.le_trans h.size hg.size,
    fun i hi hne => (hg.block i (Nat.lt_of_lt_of_le hi h.size) (fun e => by have := hr i e.symm; omega)).trans (h.block i hi hne),
    fun o ho => (World.cell?_of_block (a := ⟨b, o, none⟩) (hg.block b (Nat.lt_of_lt_of_le hb h.size) (fun e => by have := hr b e.symm; omega))).trans (h.cell o ho),
    fun o => (World.frozen?_of_block (a := ⟨b, o, none⟩) (hg.block b (Nat.lt_of_lt_of_le hb h.size) (fun e => by have := hr b e.symm; omega))).trans (h.frozen o)⟩
theorem Rd.grown {w w' : World} {b k B : Nat} {s : ByteArray} {row : Option Nat} (h : Rd w b s k) (hg : w.grownBy w' row) (hr : ∀ k, row = some k → B ≤ k) (hb : b < B) : Rd w' b s k := by
  have hl := h.lt
  have e : w'.heap[b]? = w.heap[b]? := hg.block b hl (fun e => by have := hr b e.symm; omega)
  exact ⟨(World.cell?_of_block (a := ⟨b, 0, none⟩) e).trans h.text, (World.cell?_of_block (a := ⟨b, 1, none⟩) e).trans h.at_, (World.frozen?_of_block (a := ⟨b, 1, none⟩) e).trans h.free⟩

/-- What parts leaves: its parts, owned; or nothing. -/
def PartsPost (b : Nat) (s : ByteArray) (k : Nat) (w : World) (e : Ending) (w' : World) : Prop :=
  match partsTo s k [] [] with
  | some (ps, k') => ∃ pv, e = .returned (.tuple #[pv, .bool true]) ∧ Rd w' b s k' ∧ Adv b w w' ∧ PartsOwn w' w.heap.size pv ps
  | none => e = .returned (.tuple #[.slice none 0 0, .bool false]) ∧ Adv b w w'
def PartsRel (b k0 : Nat) (s : ByteArray) (w : World) (m : Nat) (pv bv : Value) (wr : World) : Prop :=
  ∃ j ps pl, s.size + 1 - j ≤ m ∧ j ≤ s.size ∧ partsTo s j ps pl = partsTo s k0 [] [] ∧ Rd wr b s j ∧ Adv b w wr ∧
    PartsOwn wr w.heap.size pv ps ∧ PlainOwn wr w.heap.size bv pl ∧ ps.length + pl.length ≤ j
section
variable (b k : Nat) (s : ByteArray) (w : World)
set_option maxRecDepth 20000 in
theorem parts_any (h : Rd w b s k) (hk : k ≤ s.size) (hs : s.size ≤ 6000) (hq : tkB s k 34 = true) :
    Calls Tryz.prog 79 #[.pointer (some ⟨b, 0, none⟩)] w (PartsPost b s (k + 1) w) := by
  have HL := Lib.hid (len_ok hs)
  have HR := Lib.hid h
  have HB := Lib.hid h.lt
  have K1 := Lib.hid (show k + 1 ≤ s.size from tkB_lt hq)
  have HS6 := Lib.hid hs
  have Q1 := Lib.hid hq
  have Q2 := Lib.hid (tkTo_yes hq)
  clear h hk hs hq
  go_enter Tryz.func79, Tryz.ntmps79
  go_wp2_with fail
  refine (take_any b k s w 34 (by omega) (by omega) HR.out HL.out).mono ?_
  rw [Q1.out, Q2.out]
  rintro e w1 ⟨rfl, hr1, ha1⟩
  have R1 := Lib.hid hr1
  have A1 := Lib.hid ha1
  clear hr1 ha1
  go_wp2_with fail
  go_loopg [4, 5] (s.size + 1 - (k + 1)) (fun m pv bv wr => PartsRel b (k + 1) s w m pv bv wr)
  case atStart => exact ⟨k + 1, [], [], Nat.le_refl _, K1.out, rfl, R1.out, A1.out, World.ownsRow_nil _ _ _ _, World.ownsRow_nil _ _ _ _, by simp⟩
  case round =>
    obtain ⟨j, ps, pl, hm, hj, he, hr, ha, hps, hpl, hlen⟩ := hrel
    have HM := Lib.hid hm
    have HJ := Lib.hid hj
    have HE := Lib.hid he
    have R := Lib.hid hr
    have HA := Lib.hid ha
    have PS := Lib.hid hps
    have PL := Lib.hid hpl
    have LEN := Lib.hid hlen
    have WS := Lib.hid ha.size
    clear hm hj he hr ha hps hpl hlen
    cases c1 : tkB s j 34
    · have C1 := Lib.hid c1
      have C2 := Lib.hid (tkTo_no c1)
      have q1 : ps.length ≤ 6000 := by have := LEN.out; have := HJ.out; have := HS6.out; omega
      have q2 : pl.length ≤ 6000 := by have := LEN.out; have := HJ.out; have := HS6.out; omega
      have LP := Lib.hid q1
      have LL := Lib.hid q2
      clear q1 q2
      cases c2 : isAt s dollar j
      · have D1 := Lib.hid c2
        have D2 := Lib.hid (tkAllTo_no c2)
        cases c3 : charOk s j
        · have F1 := Lib.hid c3
          have TO : partsTo s (k + 1) [] [] = none := by rw [← HE.out, partsTo_eq, C1.out, D1.out, F1.out]; rfl
          have TO := Lib.hid TO
          clear c1 c2 c3
          go_wp2_with fail
          refine (take_any b j s wr 34 (by omega) (by omega) R.out HL.out).mono ?_
          rw [C1.out, C2.out]
          rintro e w2 ⟨rfl, hr2, ha2⟩
          have R2 := Lib.hid hr2
          have A2 := Lib.hid (HA.out.trans ha2)
          clear hr2 ha2
          go_wp2_with fail
          refine (takeAll_any b j s dollar w2 R2.out HJ.out HL.out (by decide)).mono ?_
          rw [D1.out, D2.out]
          rintro e w3 ⟨rfl, hr3, ha3⟩
          have R3 := Lib.hid hr3
          have A3 := Lib.hid (A2.out.trans ha3)
          clear hr3 ha3
          go_wp2_with fail
          refine (char_any b j s w3 R3.out HL.out).mono ?_
          rw [F1.out]
          rintro e w4 ⟨rfl, hr4, ha4⟩
          have R4 := Lib.hid hr4
          have A4 := Lib.hid (A3.out.trans ha4)
          clear hr4 ha4
          go_wp2_with fail
          go_ret2
          show PartsPost b s (k + 1) w _ _
          unfold PartsPost
          rw [TO.out]
          exact ⟨rfl, A4.out⟩
        · have F1 := Lib.hid c3
          have TO : partsTo s (charTo s j) ps (pl ++ [byteOf (charC s j)]) = partsTo s (k + 1) [] [] := by
            rw [← HE.out, partsTo_eq s j, C1.out, D1.out, F1.out]; rfl
          have TO := Lib.hid TO
          have CT := Lib.hid (charTo_ok c3)
          have CB := Lib.hid (charC_byte c3)
          clear c1 c2 c3
          go_wp2_with fail
          refine (take_any b j s wr 34 (by omega) (by omega) R.out HL.out).mono ?_
          rw [C1.out, C2.out]
          rintro e w2 ⟨rfl, hr2, ha2⟩
          have R2 := Lib.hid hr2
          have A2 := Lib.hid ha2
          clear hr2 ha2
          go_wp2_with fail
          refine (takeAll_any b j s dollar w2 R2.out HJ.out HL.out (by decide)).mono ?_
          rw [D1.out, D2.out]
          rintro e w3 ⟨rfl, hr3, ha3⟩
          have R3 := Lib.hid hr3
          have A3 := Lib.hid (A2.out.trans ha3)
          clear hr3 ha3
          go_wp2_with fail
          refine (char_any b j s w3 R3.out HL.out).mono ?_
          rw [F1.out]
          rintro e w4 ⟨rfl, hr4, ha4⟩
          have R4 := Lib.hid hr4
          have A4 := Lib.hid (A3.out.trans ha4)
          have PS4 := Lib.hid (own_adv PS.out (A3.out.trans ha4) HB.out)
          have PL4 := Lib.hid (own_adv PL.out (A3.out.trans ha4) HB.out)
          have S4 := Lib.hid (Nat.le_trans WS.out (A3.out.trans ha4).size)
          clear hr4 ha4
          obtain ⟨i0, hi0, hz0, hz1, hz2⟩ := info_parts info_byte
          go_wp2_with (at_builtin; refine wpList_append_own _ rfl _ _ 48 rfl w.heap.size 5 i0 _ 1 1 Tryz.underlying48 hi0 hz0 hz1 hz2 rfl (by decide) u5 pl.length (byteVals pl) rfl (World.ownsRow.alloc PL4.out _) ⟨w4.heap.size, 0, none⟩ 1 1 [.int .u8 (charC s j)] rfl rfl ?c1 ?c2 ?c3 ?c4 ?c5 ?_)
          case c1 => exact news_new w4 #[.int .u8 (charC s j)] 5
          case c2 => simp [Value.oneCell']
          case c3 => have := LL.out; unfold maxLen; omega
          case c4 => have := LL.out; omega
          case c5 => have := S4.out; simp; omega
          intro v' w5 hown' hgrow _
          have HO := Lib.hid hown'
          have HG := Lib.hid (grown_trans (World.grownBy_alloc w4 _ _) hgrow)
          clear hown' hgrow
          go_wp2
          go_roundg (s.size + 1 - charTo s j)
          case rel =>
            have hrow : ∀ k, u5.ownBlock = some k → w.heap.size ≤ k := fun k hk => (World.ownsRow.lt PL4.out k hk).1
            refine ⟨charTo s j, ps, pl ++ [byteOf (charC s j)], Nat.le_refl _, CT.out.2, TO.out, R4.out.grown HG.out hrow HB.out, (HA.out.trans A4.out).grown HB.out HG.out hrow, ?_, ?_, ?_⟩
            · exact World.ownsRow.kept PS4.out HG.out (own_apart PS4.out PL4.out (by decide))
            · unfold PlainOwn
              have e : byteVals (pl ++ [byteOf (charC s j)]) = byteVals pl ++ [.int .u8 (charC s j)] := by simp [byteVals, byteOf_val CB.out.1 CB.out.2]
              rw [e, List.length_append]
              exact HO.out
            · have := LEN.out; have := CT.out.1; simp; omega
          case measure => have := HM.out; have := CT.out.1; have := HJ.out; omega
      · have D1 := Lib.hid c2
        have D2 := Lib.hid ((tkAllTo_yes c2).trans (show j + dollar.size = j + 2 from rfl))
        have D3 := Lib.hid (show j + 2 ≤ s.size from isAt_le c2)
        cases c3 : refB s (j + 2)
        · have F1 := Lib.hid c3
          have TO : partsTo s (k + 1) [] [] = none := by rw [← HE.out, partsTo_eq, C1.out, D1.out, F1.out]; rfl
          have TO := Lib.hid TO
          clear c1 c2 c3
          go_wp2_with fail
          refine (take_any b j s wr 34 (by omega) (by omega) R.out HL.out).mono ?_
          rw [C1.out, C2.out]
          rintro e w2 ⟨rfl, hr2, ha2⟩
          have R2 := Lib.hid hr2
          have A2 := Lib.hid (HA.out.trans ha2)
          clear hr2 ha2
          go_wp2_with fail
          refine (takeAll_any b j s dollar w2 R2.out HJ.out HL.out (by decide)).mono ?_
          rw [D1.out, D2.out]
          rintro e w3 ⟨rfl, hr3, ha3⟩
          have R3 := Lib.hid hr3
          have A3 := Lib.hid (A2.out.trans ha3)
          clear hr3 ha3
          go_wp2_with fail
          refine (ref_any b (j + 2) s w3 R3.out D3.out HS6.out).mono ?_
          rw [F1.out]
          rintro e w4 ⟨rfl, hr4, ha4⟩
          have A4 := Lib.hid (A3.out.trans ha4)
          clear hr4 ha4
          go_wp2_with fail
          go_ret2
          show PartsPost b s (k + 1) w _ _
          unfold PartsPost
          rw [TO.out]
          exact ⟨rfl, A4.out⟩
        · have F1 := Lib.hid c3
          have TO : partsTo s (refTo s (j + 2)) (withPl ps pl ++ [(true, s.extract (j + 2) (refMid s (j + 2)))]) [] = partsTo s (k + 1) [] [] := by
            rw [← HE.out, partsTo_eq s j, C1.out, D1.out, F1.out]; rfl
          have TO := Lib.hid TO
          have CT := Lib.hid (refTo_ok c3)
          clear c1 c2 c3
          go_wp2_with fail
          refine (take_any b j s wr 34 (by omega) (by omega) R.out HL.out).mono ?_
          rw [C1.out, C2.out]
          rintro e w2 ⟨rfl, hr2, ha2⟩
          have R2 := Lib.hid hr2
          have A2 := Lib.hid ha2
          clear hr2 ha2
          go_wp2_with fail
          refine (takeAll_any b j s dollar w2 R2.out HJ.out HL.out (by decide)).mono ?_
          rw [D1.out, D2.out]
          rintro e w3 ⟨rfl, hr3, ha3⟩
          have R3 := Lib.hid hr3
          have A3 := Lib.hid (A2.out.trans ha3)
          clear hr3 ha3
          go_wp2_with fail
          refine (ref_any b (j + 2) s w3 R3.out D3.out HS6.out).mono ?_
          rw [F1.out]
          generalize hrf : s.extract (j + 2) (refMid s (j + 2)) = rf at *
          rintro e w4 ⟨rfl, hr4, ha4⟩
          have R4 := Lib.hid hr4
          have A4 := Lib.hid (A3.out.trans ha4)
          have PS4 := Lib.hid (own_adv PS.out (A3.out.trans ha4) HB.out)
          have PL4 := Lib.hid (own_adv PL.out (A3.out.trans ha4) HB.out)
          have S4 := Lib.hid (Nat.le_trans WS.out (A3.out.trans ha4).size)
          clear hr4 ha4 hrf
          go_wp2_with fail
          refine (withPlain_any w4 w.heap.size _ _ ps pl PS4.out PL4.out S4.out LP.out LL.out).mono ?_
          rintro e w5 ⟨v5, rfl, hp5, hg5⟩
          have P5 := Lib.hid hp5
          have G5 := Lib.hid hg5
          have S5 := Lib.hid (Nat.le_trans S4.out hg5.size)
          have hwl : (withPl ps pl).length ≤ 6001 := by
            have := LP.out
            unfold withPl; split
            · omega
            · simp; omega
          have WL := Lib.hid hwl
          clear hp5 hg5 hwl
          obtain ⟨i0, hi0, hz0, hz1, hz2⟩ := info_parts info_part
          go_wp2_with (at_builtin; refine wpList_append_own _ rfl _ _ 32 rfl w.heap.size 31 i0 _ 2 24 Tryz.underlying32 hi0 hz0 hz1 hz2 rfl (by decide) v5 (withPl ps pl).length (partCells (withPl ps pl)) rfl (World.ownsRow.alloc P5.out _) ⟨w5.heap.size, 0, none⟩ 1 1 [.bool true, .string rf] rfl rfl ?d1 ?d2 ?d3 ?d4 ?d5 ?_)
          case d1 => exact news_new w5 #[.bool true, .string rf] 31
          case d2 => simp [Value.oneCell']
          case d3 => have := WL.out; unfold maxLen; omega
          case d4 => have := WL.out; omega
          case d5 => have := S5.out; simp; omega
          intro v' w6 hown' hgrow _
          have HO := Lib.hid hown'
          have HG := Lib.hid (grown_trans (World.grownBy_alloc w5 _ _) hgrow)
          clear hown' hgrow
          go_wp2
          go_roundg (s.size + 1 - refTo s (j + 2))
          case rel =>
            have hrow4 : ∀ k, u4.ownBlock = some k → w.heap.size ≤ k := fun k hk => (World.ownsRow.lt PS4.out k hk).1
            have hrow5 : ∀ k, v5.ownBlock = some k → w.heap.size ≤ k := fun k hk => (World.ownsRow.lt P5.out k hk).1
            refine ⟨refTo s (j + 2), withPl ps pl ++ [(true, rf)], [], Nat.le_refl _, CT.out.2, TO.out, (R4.out.grown G5.out hrow4 HB.out).grown HG.out hrow5 HB.out,
              ((HA.out.trans A4.out).grown HB.out G5.out hrow4).grown HB.out HG.out hrow5, ?_, World.ownsRow_nil _ _ _ _, ?_⟩
            · unfold PartsOwn
              rw [partCells_snoc, List.length_append]
              exact HO.out
            · have h1 := LEN.out
              have h2 := CT.out.1
              have h3 : (withPl ps pl).length ≤ ps.length + pl.length := by
                unfold withPl; split
                · omega
                · rename_i hne
                  have : 0 < pl.length := List.length_pos_iff.2 hne
                  simp; omega
              simp; omega
          case measure => have := HM.out; have := CT.out.1; have := HJ.out; omega
    · have C1 := Lib.hid c1
      have C2 := Lib.hid (tkTo_yes c1)
      have TO : partsTo s (k + 1) [] [] = some (withPl ps pl, j + 1) := by rw [← HE.out, partsTo_eq, if_pos c1]
      have TO := Lib.hid TO
      clear c1
      go_wp2_with fail
      refine (take_any b j s wr 34 (by omega) (by omega) R.out HL.out).mono ?_
      rw [C1.out, C2.out]
      rintro e w2 ⟨rfl, hr2, ha2⟩
      have R2 := Lib.hid hr2
      have A2 := Lib.hid ha2
      clear hr2 ha2
      go_wp2_with fail
      refine (withPlain_any w2 w.heap.size _ _ ps pl (own_adv PS.out A2.out HB.out) (own_adv PL.out A2.out HB.out) (Nat.le_trans WS.out A2.out.size) (by have := LEN.out; have := HJ.out; have := HS6.out; omega) (by have := LEN.out; have := HJ.out; have := HS6.out; omega)).mono ?_
      rintro e w3 ⟨v3, rfl, hp3, hg3⟩
      have P3 := Lib.hid hp3
      have G3 := Lib.hid hg3
      clear hp3 hg3
      go_wp2_with fail
      go_ret2
      have hrow : ∀ k, u4.ownBlock = some k → w.heap.size ≤ k := fun k hk => (World.ownsRow.lt PS.out k hk).1
      show PartsPost b s (k + 1) w _ _
      unfold PartsPost
      rw [TO.out]
      exact ⟨v3, rfl, R2.out.grown G3.out hrow HB.out, (HA.out.trans A2.out).grown HB.out G3.out hrow, P3.out⟩
end
end Go.Proofs.YtlkdicabmikhkaaGreatDoor
