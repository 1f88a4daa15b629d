/- Package parse's reader of blocks: lists of blocks. -/
import Derived.Test.YtkbbhgipajhbnaaDoorParM
namespace Go.Proofs.YtkbbhgipajhbnaaDoor
open Go.RowKit
set_option linter.unusedVariables false
set_option linter.unusedSimpArgs false

inductive BlockL where
  | mk (kind : Int) (label : ByteArray) (attrs : List AttrL) (blocks : List BlockL)
def BlockL.kind : BlockL → Int | .mk k _ _ _ => k
def BlockL.label : BlockL → ByteArray | .mk _ l _ _ => l
def BlockL.attrs : BlockL → List AttrL | .mk _ _ a _ => a
def BlockL.blocks : BlockL → List BlockL | .mk _ _ _ b => b
def BRow (C : Ctx) (w : World) (b : Nat) (Q : Value → List BlockL → Prop) : List BlockL → List Value → Prop
  | [], xs => xs = []
  | x :: l, xs => ∃ av bv rest, xs = [.int .i64 x.kind, .string x.label, av, bv] ++ rest ∧ AttrsIn C w b av x.attrs ∧ Q bv x.blocks ∧ BRow C w b Q l rest
def Q1 (v : Value) (l : List BlockL) : Prop := v = nilv ∧ l = []
/-- Blocks that have no blocks within. -/
def Blocks1 (C : Ctx) (w : World) (b : Nat) (v : Value) (l : List BlockL) : Prop :=
  ∃ xs, w.ownsRow (b + 1) 33 4 v l.length xs ∧ BRow C w b Q1 l xs
/-- What is within a block: nothing, or blocks in a row of none of these blocks. -/
def QB (C : Ctx) (w : World) (b : Nat) (lvl : Bool) (X : Nat → Prop) (v : Value) (l : List BlockL) : Prop :=
  match lvl with
  | true => Blocks1 C w b v l ∧ ∀ g, v.ownBlock = some g → ¬ X g
  | false => Q1 v l
/-- A finished list of blocks. -/
def BlocksIn (C : Ctx) (w : World) (b : Nat) (lvl : Bool) (v : Value) (l : List BlockL) : Prop :=
  ∃ xs, w.ownsRow (b + 1) 33 4 v l.length xs ∧ BRow C w b (QB C w b lvl fun g => v.ownBlock = some g) l xs
theorem BRow.keep {C : Ctx} {w w' : World} {b : Nat} {Q Q' : Value → List BlockL → Prop} (k : Keep (· ≠ 33) b w w') (hq : ∀ v l, Q v l → Q' v l) : ∀ {l : List BlockL} {xs : List Value}, BRow C w b Q l xs → BRow C w' b Q' l xs := by
  intro l
  induction l with
  | nil => intro xs h; exact h
  | cons x l ih => intro xs h; obtain ⟨av, bv, rest, rfl, ha, hb, hr⟩ := h; exact ⟨av, bv, rest, rfl, ha.keep k (by decide) (by decide) (by decide), hq _ _ hb, ih hr⟩
theorem BRow.snoc {C : Ctx} {w : World} {b : Nat} {Q : Value → List BlockL → Prop} {x : BlockL} {av bv : Value} (ha : AttrsIn C w b av x.attrs) (hb : Q bv x.blocks) : ∀ {l : List BlockL} {xs : List Value}, BRow C w b Q l xs → BRow C w b Q (l ++ [x]) (xs ++ [.int .i64 x.kind, .string x.label, av, bv]) := by
  intro l
  induction l with
  | nil => intro xs h; have h : xs = [] := h; subst h; exact ⟨av, bv, [], by simp, ha, hb, rfl⟩
  | cons y l ih => intro xs h; obtain ⟨a2, b2, rest, rfl, h1, h2, hr⟩ := h; exact ⟨a2, b2, rest ++ [.int .i64 x.kind, .string x.label, av, bv], by simp, h1, h2, ih hr⟩
theorem QB.keep {C : Ctx} {w w' : World} {b : Nat} {lvl : Bool} {X Y : Nat → Prop} {v : Value} {l : List BlockL} (h : QB C w b lvl X v l) (k : Keep (· ≠ 33) b w w')
    (hX : ∀ g, b + 1 ≤ g → g < w.heap.size → ¬ X g → w'.heap[g]? = w.heap[g]?) (hY : ∀ g, b + 1 ≤ g → g < w.heap.size → ¬ X g → ¬ Y g) : QB C w' b lvl Y v l := by
  cases lvl with
  | false => exact h
  | true =>
    obtain ⟨⟨xs, o, r⟩, hx⟩ := h
    have hl := fun g hg => World.ownsRow.lt o g hg
    exact ⟨⟨xs, own_blocks o fun g hg => hX g (hl g hg).1 (hl g hg).2 (hx g hg), r.keep k fun _ _ h => h⟩, fun g hg => hY g (hl g hg).1 (hl g hg).2 (hx g hg)⟩
theorem BlocksIn.turn {C : Ctx} {w w' : World} {b : Nat} {lvl : Bool} {v : Value} {l : List BlockL} (h : BlocksIn C w b lvl v l) (t : Turn b nilv nilv w w') : BlocksIn C w' b lvl v l := by
  obtain ⟨xs, o, r⟩ := h
  exact ⟨xs, (Keep.turn (P := fun _ => True) t).own trivial o, r.keep (Keep.turn t) fun _ _ h => h.keep (Keep.turn t) (fun g h1 h2 _ => t.block g h2 (by omega) (by simp [nilv, Value.ownBlock])) (fun _ _ _ h => h)⟩
def blockE (N M : Nat) (T : List TokL) (inDef : Bool) (inner : PS → Option (List BlockL × PS)) (S : PS) : Option (BlockL × PS) :=
  (T[S.at_]?).bind fun t =>
    if kindOf t.text = 0 ∨ (kindOf t.text = 5 ∧ inDef = true) then some (.mk 0 ⟨#[]⟩ [] [], failS T 5 S)
    else (stepS T S).bind fun S1 => (if kindOf t.text = 2 then some (⟨#[]⟩, S1) else labelE T S1).bind fun (lb, S2) => (needS T ⟨#[123]⟩ S2).bind fun S3 =>
      if kindOf t.text = 5 then (inner S3).bind fun (bs, S4) => (needS T ⟨#[125]⟩ S4).bind fun S5 => some (.mk (kindOf t.text) lb [] bs, S5)
      else (attrE N T M [] S3).bind fun (al, S4) => (needS T ⟨#[125]⟩ S4).bind fun S5 => some (.mk (kindOf t.text) lb al [], S5)
def blocksE (blk : PS → Option (BlockL × PS)) (T : List TokL) : Nat → List BlockL → PS → Option (List BlockL × PS)
  | 0, _, _ => none
  | m + 1, l, S => (T[S.at_]?).bind fun t => if t.kind = 3 then (blk S).bind fun (x, S1) => if l.length ≤ 100000 then blocksE blk T m (l ++ [x]) S1 else none else some (l, S)
def BlkPost (C : Ctx) (b : Nat) (lvl : Bool) (w : World) (x : BlockL) (S' : PS) (e : Ending) (w' : World) : Prop :=
  ∃ av bv nv', e = .returned (.agg #[.int .i64 x.kind, .string x.label, av, bv]) ∧ AttrsIn C w' b av x.attrs ∧ QB C w' b lvl (fun g => g < w.heap.size) bv x.blocks ∧ Pr C w' b nv' S' ∧ Turn b nilv nilv w w'
def BlksPost (C : Ctx) (b : Nat) (lvl : Bool) (w : World) (rs : List BlockL) (S' : PS) (e : Ending) (w' : World) : Prop :=
  ∃ v nv', e = .returned v ∧ BlocksIn C w' b lvl v rs ∧ (∀ g, v.ownBlock = some g → w.heap.size ≤ g) ∧ Pr C w' b nv' S' ∧ Turn b nilv nilv w w'
theorem info_block : (Tryd.prog.info? 33).map (fun i => (i.zero, i.size, i.bytes)) = some (some (.agg #[.int .i64 0, .string ⟨#[]⟩, .slice none 0 0, .slice none 0 0]), 4, 72) := by kernel_rfl
def BlkRel (C : Ctx) (blk : PS → Option (BlockL × PS)) (M : Nat) (b : Nat) (lvl : Bool) (w : World) (rs : List BlockL) (S' : PS) (m : Nat) (lv : Value) (wr : World) : Prop :=
  ∃ l nv1 S1, m ≤ M ∧ blocksE blk C.T m l S1 = some (rs, S') ∧ Pr C wr b nv1 S1 ∧ Turn b nilv nilv w wr ∧ BlocksIn C wr b lvl lv l ∧ (∀ g, lv.ownBlock = some g → w.heap.size ≤ g)
theorem QB.shape {C : Ctx} {w : World} {b : Nat} {lvl : Bool} {X : Nat → Prop} {v : Value} {l : List BlockL} (h : QB C w b lvl X v l) : ∃ ao m cap, v = .slice ao m cap := by
  cases lvl with
  | false => obtain ⟨rfl, -⟩ := h; exact ⟨_, _, _, rfl⟩
  | true => obtain ⟨⟨xs, o, -⟩, -⟩ := h; exact own_slice o
theorem blk_step {C : Ctx} {w w3 w4 w6 : World} {b g cc : Nat} {lvl : Bool} {nv4 lv av bv : Value} {S4 : PS} {l : List BlockL} {x : BlockL} {O : Obj} {xs : List Value} (p : Pr C w4 b nv4 S4) (t : Turn b nilv nilv w w3) (t4 : Turn b nilv nilv w3 w4)
    (ho : w3.ownsRow (b + 1) 33 4 lv l.length xs) (hr : BRow C w3 b (QB C w3 b lvl fun g => lv.ownBlock = some g) l xs) (hf : ∀ g, lv.ownBlock = some g → w.heap.size ≤ g)
    (ha : AttrsIn C w4 b av x.attrs) (hb : QB C w4 b lvl (fun g => g < w3.heap.size) bv x.blocks)
    (hown : w6.ownsRow (b + 1) 33 4 (.slice (some ⟨g, 0, none⟩) (l.length + 1) cc) (l.length + 1) (xs ++ [.int .i64 x.kind, .string x.label, av, bv])) (hg : (w4.alloc O).grownBy w6 lv.ownBlock) (hat : lv.ownBlock = some g ∨ g = w4.heap.size + 1) :
    Pr C w6 b nv4 S4 ∧ Turn b nilv nilv w w6 ∧ BlocksIn C w6 b lvl (.slice (some ⟨g, 0, none⟩) (l.length + 1) cc) (l ++ [x]) ∧ ∀ g', (Value.slice (some ⟨g, 0, none⟩) (l.length + 1) cc).ownBlock = some g' → w.heap.size ≤ g' := by
  have hg' := grown_trans (World.grownBy_alloc w4 O lv.ownBlock) hg
  have o4 := (Keep.turn (P := fun _ => True) t4).own trivial ho
  have k : Keep (· ≠ 33) b w4 w6 := Keep.row o4 hg'
  have k4 : Keep (· ≠ 33) b w3 w4 := Keep.turn t4
  have hne : ∀ j, lv.ownBlock = some j → b < j := fun j hj => (World.ownsRow.lt o4 j hj).1
  have hlv : ∀ j, lv.ownBlock = some j → j < w3.heap.size := fun j hj => (World.ownsRow.lt ho j hj).2
  have hq : ∀ v l', QB C w4 b lvl (fun j => lv.ownBlock = some j) v l' → QB C w6 b lvl (fun j => (Value.slice (some ⟨g, 0, none⟩) (l.length + 1) cc).ownBlock = some j) v l' := fun v l' h =>
    h.keep k (fun j h1 h2 h3 => hg'.block j h2 (fun e => h3 e.symm)) (fun j h1 h2 h3 h4 => by
      simp [Value.ownBlock] at h4
      subst h4
      rcases hat with h | h
      · exact h3 h
      · omega)
  refine ⟨p.grownBy k (by decide) (by decide) hg' hne, (t.trans t4).grown hg' hf, ⟨xs ++ [.int .i64 x.kind, .string x.label, av, bv], by simpa using hown, ?_⟩, ?_⟩
  · refine BRow.snoc (ha.keep k (by decide) (by decide) (by decide)) (hq _ _ ?_) ?_
    · exact hb.keep (fun _ _ _ _ _ h => h) (fun _ _ _ _ => rfl) (fun j _ _ h3 h4 => h3 (hlv j h4))
    · refine (hr.keep (Q' := QB C w4 b lvl fun j => lv.ownBlock = some j) k4 fun _ _ h => h.keep k4 (fun j h1 h2 _ => t4.block j h2 (by omega) (by simp [nilv, Value.ownBlock])) (fun _ _ _ h => h)).keep k hq
  · intro g' h
    simp [Value.ownBlock] at h
    subst h
    rcases hat with h | h
    · exact hf _ h
    · have := t.size; have := t4.size; omega
section
variable (C : Ctx) (b : Nat) (w : World) (nv : Value) (S : PS)
set_option maxHeartbeats 4000000 in
set_option maxRecDepth 20000 in
theorem pblocks (lvl : Bool) (blk : PS → Option (BlockL × PS)) (hblk : ∀ w nv S x S', Pr C w b nv S → blk S = some (x, S') → Calls Tryd.prog 22 #[.pointer (some ⟨b, 0, none⟩), .bool (!lvl)] w (BlkPost C b lvl w x S'))
    (M : Nat) (h : Pr C w b nv S) (rs : List BlockL) (S' : PS) (hr : blocksE blk C.T M [] S = some (rs, S')) :
    Calls Tryd.prog 13 #[.pointer (some ⟨b, 0, none⟩), .bool (!lvl)] w (BlksPost C b lvl w rs S') := by
  have H := Lib.hid h
  have HB := Lib.hid h.hb
  have E0 := Lib.hid hr
  have HK := Lib.hid hblk
  clear h hr hblk
  generalize (!lvl) = iD at *
  obtain ⟨i0, hi0, hz0, hz1, hz2⟩ := info_parts info_block
  go_enter Tryd.func13, Tryd.ntmps13
  go_wp2_with fail
  go_loopg [5] M (fun m lv wr => BlkRel C blk M b lvl w rs S' m lv wr)
  case atStart => exact ⟨[], nv, S, Nat.le_refl _, E0.out, H.out, Turn.refl _ _ _, ⟨[], World.ownsRow_nil _ _ _ _, rfl⟩, fun g hg => by simp [Value.ownBlock] at hg⟩
  case round =>
    clear E0 H
    obtain ⟨l, nv2, S2, hm, he, hp, ha, hl, hf⟩ := hrel
    obtain ⟨xs, ho, hrow⟩ := hl
    obtain ⟨lao, ln, lcap, rfl⟩ := own_slice ho
    have HM := Lib.hid hm
    have K2 := Lib.hid hp
    have A2 := Lib.hid ha
    have L2 := Lib.hid (show BlocksIn C wr b lvl (.slice lao ln lcap) l from ⟨xs, ho, hrow⟩)
    have F2 := Lib.hid hf
    clear hm hp ha ho hrow hf
    cases gk with
    | zero => simp [blocksE] at he
    | succ k =>
      obtain ⟨t, ht⟩ := K2.out.tok
      simp only [blocksE, ht, Option.bind_some] at he
      have HT := Lib.hid ht
      clear ht
      by_cases k3 : t.kind = 3
      · rw [if_pos k3] at he
        have g3 : (t.kind == 3) = true := by simpa using k3
        clear k3
        simp only [Option.bind_eq_some_iff, Prod.exists] at he
        obtain ⟨x, S3, h3, he⟩ := he
        split at he
        · rename_i hz
          have HZ := Lib.hid hz
          have E3 := Lib.hid h3
          have HE := Lib.hid he
          clear hz h3 he
          go_wp2_with fail
          refine (ppeek C b _ nv2 S2 K2.out t HT.out).mono ?_
          rintro e w3 ⟨pv, rfl, -, hb3⟩
          have K3 := Lib.hid (K2.out.below hb3)
          have A3 := Lib.hid (A2.out.trans (Turn.below (b := b) (nv := nilv) hb3))
          have L3 := Lib.hid (L2.out.turn (Turn.below hb3))
          have q0 := fld0 w3 (.int .i64 t.kind) (.string t.text) (.int .i64 t.num) pv (.int .i64 t.at_)
          clear hb3
          go_wp2_with fail
          clear q0
          refine (HK.out _ nv2 S2 _ _ K3.out E3.out).mono ?_
          rintro e w4 ⟨av, bv, nv4, rfl, hav, hbv, k4, a4⟩
          obtain ⟨aao, an, acap, rfl⟩ : ∃ ao m cap, av = .slice ao m cap := by obtain ⟨ys, o, -⟩ := hav; exact own_slice o
          obtain ⟨bao, bn, bcap, rfl⟩ := hbv.shape
          have V4 := Lib.hid hav
          have W4 := Lib.hid hbv
          have K4 := Lib.hid k4
          have T4 := Lib.hid a4
          obtain ⟨ys, o3, r3⟩ := L3.out
          have O3 := Lib.hid o3
          have R3 := Lib.hid r3
          have O4 := Lib.hid ((Keep.turn (P := fun _ => True) a4).own trivial o3)
          have LB := Lib.hid k4.hb
          clear hav hbv k4 a4 o3 r3
          go_wp2_with (at_builtin; refine wpList_append_lies _ rfl _ _ 26 rfl (b + 1) 33 i0 _ 4 72 Tryd.underlying26 hi0 hz0 hz1 hz2 rfl (by decide) (.slice lao ln lcap) l.length ys rfl (World.ownsRow.alloc O4.out _) ⟨w4.heap.size, 0, none⟩ 1 1 [.int .i64 x.kind, .string x.label, .slice aao an acap, .slice bao bn bcap] rfl rfl ?a1 ?b1 (by omega) ?c1 ?d1 ?e1 (w4.heap.size + 1) ?f1 ?_)
          try case a1 => exact news_new w4 #[.int .i64 x.kind, .string x.label, .slice aao an acap, .slice bao bn bcap] 33
          try case b1 => simp [Value.oneCell']
          try case c1 => have := HZ.out; unfold maxLen; omega
          try case d1 => have := HZ.out; omega
          try case e1 => have := LB.out; simp; omega
          try case f1 => simp
          intro g2 cc2 w6 hown hgrow hat _
          have ST := Lib.hid (blk_step (x := x) K4.out A3.out T4.out O3.out R3.out F2.out V4.out W4.out hown hgrow hat)
          clear hown hgrow hat
          go_wp2_with fail
          go_roundg k
          case rel => exact ⟨l ++ [x], nv4, S3, by have := HM.out; omega, HE.out, ST.out.1, ST.out.2.1, ST.out.2.2.1, ST.out.2.2.2⟩
          case measure => omega
        · simp at he
      · rw [if_neg k3] at he
        simp at he
        obtain ⟨rfl, rfl⟩ := he
        have g3 : (t.kind == 3) = false := by simpa using k3
        clear k3
        go_wp2_with fail
        refine (ppeek C b _ nv2 S2 K2.out t HT.out).mono ?_
        rintro e w3 ⟨pv, rfl, -, hb3⟩
        have K3 := Lib.hid (K2.out.below hb3)
        have A3 := Lib.hid (A2.out.trans (Turn.below (b := b) (nv := nilv) hb3))
        have L3 := Lib.hid (L2.out.turn (Turn.below hb3))
        have q0 := fld0 w3 (.int .i64 t.kind) (.string t.text) (.int .i64 t.num) pv (.int .i64 t.at_)
        clear hb3
        go_wp2_with fail
        go_ret
        exact ⟨_, nv2, rfl, L3.out, F2.out, K3.out, A3.out⟩
end
end Go.Proofs.YtkbbhgipajhbnaaDoor
