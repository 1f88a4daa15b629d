/- The contracts of package parse's reader of tokens. -/
import Derived.Test.YtkbbhgipajhbnaaDoorLexI0
import Derived.Deep.RegionWith
import Derived.Deep.DeepCutAuto
namespace Go.Proofs.YtkbbhgipajhbnaaDoor
open Go.RowKit
set_option linter.unusedVariables false
set_option linter.unusedSimpArgs false

structure NodeL where
  kind : Int
  num : Int
  text : ByteArray
  parts : List PartL
  kids : List Int
structure PS where
  at_ : Nat
  f : Int
  ns : List NodeL
  d : Int
def nodeCells (n : NodeL) (pv kv : Value) : List Value := [.int .i64 n.kind, .int .i64 n.num, .string n.text, pv, kv]
def kidCells (ks : List Int) : List Value := ks.map (.int .i64)
/-- The cells xs are those of the nodes: their parts lie where the tokens' do, their kids in rows from B on. -/
def NodeRow (w0 w : World) (X : Nat → Prop) (B : Nat) : List NodeL → List Value → Prop
  | [], xs => xs = []
  | n :: ns, xs => ∃ pv kv rest, xs = nodeCells n pv kv ++ rest ∧ PartsRd w0 pv n.parts ∧ w.ownsRow B 3 1 kv n.kids.length (kidCells n.kids) ∧ (∀ g, kv.ownBlock = some g → ¬ X g) ∧ NodeRow w0 w X B ns rest
theorem NodeRow.kept {w0 w w' : World} {X : Nat → Prop} {B : Nat} (hk : ∀ v ks, w.ownsRow B 3 1 v (List.length ks) (kidCells ks) → (∀ g, v.ownBlock = some g → ¬ X g) → w'.ownsRow B 3 1 v (List.length ks) (kidCells ks)) : ∀ {ns : List NodeL} {xs : List Value}, NodeRow w0 w X B ns xs → NodeRow w0 w' X B ns xs := by
  intro ns
  induction ns with
  | nil => intro xs h; exact h
  | cons a ns ih => intro xs h; obtain ⟨pv, kv, rest, rfl, ha, hb, hx, hr⟩ := h; exact ⟨pv, kv, rest, rfl, ha, hk _ _ hb hx, hx, ih hr⟩
/-- Other blocks are kept out. -/
theorem NodeRow.apart {w0 w : World} {X Y : Nat → Prop} {B : Nat} (hk : ∀ v ks, w.ownsRow B 3 1 v (List.length ks) (kidCells ks) → (∀ g, v.ownBlock = some g → ¬ X g) → ∀ g, v.ownBlock = some g → ¬ Y g) : ∀ {ns : List NodeL} {xs : List Value}, NodeRow w0 w X B ns xs → NodeRow w0 w Y B ns xs := by
  intro ns
  induction ns with
  | nil => intro xs h; exact h
  | cons a ns ih => intro xs h; obtain ⟨pv, kv, rest, rfl, ha, hb, hx, hr⟩ := h; exact ⟨pv, kv, rest, rfl, ha, hb, hk _ _ hb hx, ih hr⟩
theorem NodeRow.snoc {w0 w : World} {X : Nat → Prop} {B : Nat} {n : NodeL} {pv kv : Value} (hp : PartsRd w0 pv n.parts) (hq : w.ownsRow B 3 1 kv n.kids.length (kidCells n.kids)) (hx : ∀ g, kv.ownBlock = some g → ¬ X g) : ∀ {ns : List NodeL} {xs : List Value}, NodeRow w0 w X B ns xs → NodeRow w0 w X B (ns ++ [n]) (xs ++ nodeCells n pv kv) := by
  intro ns
  induction ns with
  | nil => intro xs h; have h : xs = [] := h; subst h; exact ⟨pv, kv, [], by simp, hp, hq, hx, rfl⟩
  | cons a ns ih => intro xs h; obtain ⟨pa, ka, rest, rfl, ha, hb, hy, hr⟩ := h; exact ⟨pa, ka, rest ++ nodeCells n pv kv, by simp, ha, hb, hy, ih hr⟩
theorem own_blocks {w w' : World} {B e z : Nat} {v : Value} {n : Nat} {xs : List Value} (h : w.ownsRow B e z v n xs) (hk : ∀ g, v.ownBlock = some g → w'.heap[g]? = w.heap[g]?) : w'.ownsRow B e z v n xs := by
  refine ⟨h.1, ?_⟩
  rcases h.2 with hn | ⟨g, cap, cur, rfl, hbg, hg, r⟩
  · exact .inl hn
  · exact .inr ⟨g, cap, cur, rfl, hbg, (hk g rfl).trans hg, r⟩

/-- The tokens that are read: what they are, where they lie, in what kind of a reader. -/
structure Ctx where
  w0 : World
  T : List TokL
  tv : Value
  ty : Nat
  X : Nat → Prop
  rd : ToksRd w0 tv T
  few : T.length ≤ 100000
/-- The same, with other blocks kept out of the nodes' kids. -/
def Ctx.out (C : Ctx) (X : Nat → Prop) : Ctx := ⟨C.w0, C.T, C.tv, C.ty, X, C.rd, C.few⟩

/-- A reader at block b. -/
structure Pr (C : Ctx) (w : World) (b : Nat) (nv : Value) (S : PS) : Prop where
  blk : w.heap[b]? = some (.cells #[C.tv, .int .i64 S.at_, .int .i64 S.f, nv, .int .i64 S.d] C.ty (0, 0))
  old : Below C.w0.heap.size C.w0 w
  le : C.w0.heap.size ≤ b
  own : ∃ xs, w.ownsRow (b + 1) 41 5 nv S.ns.length xs ∧ NodeRow C.w0 w C.X (b + 1) S.ns xs
  lt : S.at_ < C.T.length
  xlt : ∀ k, C.X k → k < w.heap.size
theorem Pr.hb {C : Ctx} {w : World} {b : Nat} {nv : Value} {S : PS} (h : Pr C w b nv S) : b < w.heap.size := (Array.getElem?_eq_some_iff.1 h.blk).1
theorem Pr.cells {C : Ctx} {w : World} {b : Nat} {nv : Value} {S : PS} (h : Pr C w b nv S) :
    w.cell? ⟨b, 0, none⟩ = some C.tv ∧ w.cell? ⟨b, 1, none⟩ = some (.int .i64 S.at_) ∧ w.cell? ⟨b, 2, none⟩ = some (.int .i64 S.f) ∧ w.cell? ⟨b, 3, none⟩ = some nv ∧ w.cell? ⟨b, 4, none⟩ = some (.int .i64 S.d) :=
  ⟨cell_of_row w b 0 _ _ _ h.blk, cell_of_row w b 1 _ _ _ h.blk, cell_of_row w b 2 _ _ _ h.blk, cell_of_row w b 3 _ _ _ h.blk, cell_of_row w b 4 _ _ _ h.blk⟩
theorem Pr.free {C : Ctx} {w : World} {b : Nat} {nv : Value} {S : PS} (h : Pr C w b nv S) (o : Nat) : w.frozen? ⟨b, o, none⟩ = false := by
  have h := h.blk
  simp [World.frozen?, h]
theorem Pr.tok {C : Ctx} {w : World} {b : Nat} {nv : Value} {S : PS} (h : Pr C w b nv S) : ∃ t, C.T[S.at_]? = some t := ⟨_, List.getElem?_eq_getElem h.lt⟩

/-- What a call of one of the reader's methods leaves of what was there: all but the reader's own block, and that of its nodes. -/
structure Turn (b : Nat) (nv nv' : Value) (w w' : World) : Prop where
  os : w'.os = w.os
  tape : w'.tape = w.tape
  output : w'.output = w.output
  size : w.heap.size ≤ w'.heap.size
  block : ∀ k, k < w.heap.size → k ≠ b → nv.ownBlock ≠ some k → w'.heap[k]? = w.heap[k]?
  own : nv'.ownBlock = nv.ownBlock ∨ ∀ k, nv'.ownBlock = some k → w.heap.size ≤ k
theorem Turn.refl (b : Nat) (nv : Value) (w : World) : Turn b nv nv w w := ⟨rfl, rfl, rfl, Nat.le_refl _, fun _ _ _ _ => rfl, .inl rfl⟩
theorem Turn.trans {b : Nat} {n1 n2 n3 : Value} {x y z : World} (h : Turn b n1 n2 x y) (k : Turn b n2 n3 y z) : Turn b n1 n3 x z := by
  refine ⟨k.os.trans h.os, k.tape.trans h.tape, k.output.trans h.output, Nat.le_trans h.size k.size, fun i hi hne hno => ?_, ?_⟩
  · refine (k.block i (Nat.lt_of_lt_of_le hi h.size) hne ?_).trans (h.block i hi hne hno)
    rcases h.own with e | g
    · rw [e]; exact hno
    · intro e; have := g i e; omega
  · rcases k.own with e | g
    · rw [e]; exact h.own
    · exact .inr fun i hi => Nat.le_trans h.size (g i hi)
theorem Turn.below {b : Nat} {nv : Value} {x y : World} (h : Below x.heap.size x y) : Turn b nv nv x y :=
  ⟨h.os, h.tape, h.output, h.size, fun i hi _ _ => h.block i hi, .inl rfl⟩
theorem Turn.drewN (b : Nat) (nv : Value) (w : World) (n : Nat) : Turn b nv nv w (w.drewN n) := ⟨rfl, rfl, rfl, Nat.le_refl _, fun _ _ _ _ => rfl, .inl rfl⟩
theorem Turn.set (b : Nat) (nv : Value) (w : World) (o : Nat) (v : Value) : Turn b nv nv w (w.setCell ⟨b, o, none⟩ v) :=
  ⟨rfl, rfl, rfl, by simp [World.setCell], fun i _ hne _ => Below.heap_setCell _ _ _ _ hne, .inl rfl⟩
/-- A row of another type, that is not the reader's own block, stays. -/
theorem Turn.kept {C : Ctx} {b B e z n : Nat} {nv nv' v : Value} {w w' : World} {S : PS} {xs : List Value} (h : Turn b nv nv' w w') (p : Pr C w b nv S) (o : w.ownsRow B e z v n xs) (hB : b < B) (he : e ≠ 41) : w'.ownsRow B e z v n xs := by
  obtain ⟨ys, q, -⟩ := p.own
  refine own_blocks o fun g hg => h.block g (World.ownsRow.lt o g hg).2 (by have := (World.ownsRow.lt o g hg).1; omega) fun e' => ?_
  rcases own_apart o q he with h0 | h1
  · rw [h0] at hg; cases hg
  · exact h1 (hg.trans e'.symm)

theorem Pr.below {C : Ctx} {w w' : World} {b : Nat} {nv : Value} {S : PS} (h : Pr C w b nv S) (hb : Below w.heap.size w w') : Pr C w' b nv S := by
  obtain ⟨xs, o, r⟩ := h.own
  exact ⟨(hb.block b h.hb).trans h.blk, h.old.trans (hb.mono h.old.size), h.le, ⟨xs, own_below o hb, NodeRow.kept (fun _ _ q _ => own_below q hb) r⟩, h.lt, fun k hk => Nat.lt_of_lt_of_le (h.xlt k hk) hb.size⟩
theorem below_drawn (w : World) (n : Nat) : Below w.heap.size w (w.drewN n) := ⟨rfl, rfl, rfl, Nat.le_refl _, fun _ _ => rfl⟩
theorem Pr.drewN {C : Ctx} {w : World} {b : Nat} {nv : Value} {S : PS} (h : Pr C w b nv S) (n : Nat) : Pr C (w.drewN n) b nv S := h.below (below_drawn w n)
theorem Pr.setAt {C : Ctx} {w : World} {b : Nat} {nv : Value} {S : PS} (h : Pr C w b nv S) (k : Nat) (hk : k < C.T.length) : Pr C (w.setCell ⟨b, 1, none⟩ (.int .i64 k)) b nv ⟨k, S.f, S.ns, S.d⟩ := by
  obtain ⟨xs, o, r⟩ := h.own
  exact ⟨heap_setCell_same w b 1 _ _ _ h.blk, h.old.setCell (p := ⟨b, 1, none⟩) h.le _, h.le, ⟨xs, own_set (p := ⟨b, 1, none⟩) o (Nat.lt_succ_self b) _, NodeRow.kept (fun _ _ q _ => own_set (p := ⟨b, 1, none⟩) q (Nat.lt_succ_self b) _) r⟩, hk, by simpa [World.setCell] using h.xlt⟩
theorem Pr.setF {C : Ctx} {w : World} {b : Nat} {nv : Value} {S : PS} (h : Pr C w b nv S) (f : Int) : Pr C (w.setCell ⟨b, 2, none⟩ (.int .i64 f)) b nv ⟨S.at_, f, S.ns, S.d⟩ := by
  obtain ⟨xs, o, r⟩ := h.own
  exact ⟨heap_setCell_same w b 2 _ _ _ h.blk, h.old.setCell (p := ⟨b, 2, none⟩) h.le _, h.le, ⟨xs, own_set (p := ⟨b, 2, none⟩) o (Nat.lt_succ_self b) _, NodeRow.kept (fun _ _ q _ => own_set (p := ⟨b, 2, none⟩) q (Nat.lt_succ_self b) _) r⟩, h.lt, by simpa [World.setCell] using h.xlt⟩
theorem Pr.setD {C : Ctx} {w : World} {b : Nat} {nv : Value} {S : PS} (h : Pr C w b nv S) (d : Int) : Pr C (w.setCell ⟨b, 4, none⟩ (.int .i64 d)) b nv ⟨S.at_, S.f, S.ns, d⟩ := by
  obtain ⟨xs, o, r⟩ := h.own
  exact ⟨heap_setCell_same w b 4 _ _ _ h.blk, h.old.setCell (p := ⟨b, 4, none⟩) h.le _, h.le, ⟨xs, own_set (p := ⟨b, 4, none⟩) o (Nat.lt_succ_self b) _, NodeRow.kept (fun _ _ q _ => own_set (p := ⟨b, 4, none⟩) q (Nat.lt_succ_self b) _) r⟩, h.lt, by simpa [World.setCell] using h.xlt⟩

/-- A call of a method that answers v, and leaves the state S'. -/
def PPost (C : Ctx) (b : Nat) (nv : Value) (w : World) (v : Value) (S' : PS) (e : Ending) (w' : World) : Prop :=
  e = .returned v ∧ ∃ nv', Pr C w' b nv' S' ∧ Turn b nv nv' w w'
def PeekPost (C : Ctx) (t : TokL) (w : World) (e : Ending) (w' : World) : Prop :=
  ∃ pv, e = .returned (.agg #[.int .i64 t.kind, .string t.text, .int .i64 t.num, pv, .int .i64 t.at_]) ∧ PartsRd C.w0 pv t.parts ∧ Below w.heap.size w w'

def setTok5 (w : World) (B : Nat) (v0 v1 v2 v3 v4 : Value) : World := ((((w.setCell ⟨B, 0, none⟩ v0).setCell ⟨B, 1, none⟩ v1).setCell ⟨B, 2, none⟩ v2).setCell ⟨B, 3, none⟩ v3).setCell ⟨B, 4, none⟩ v4
theorem TokBlk.drew' {W : World} {B : Nat} {a c d e f : Value} (h : TokBlk W B a c d e f) : TokBlk W.drew B a c d e f := h
theorem TokBlk.put4 {W : World} {B : Nat} {a c d e f : Value} (h : TokBlk W B a c d e f) (v : Value) : TokBlk (W.setCell ⟨B, 4, none⟩ v) B a c d e v := heap_setCell_same W B 4 _ _ v h
theorem below_drew' {B : Nat} {a w : World} (h : Below B a w) : Below B a w.drew := ⟨h.os, h.tape, h.output, h.size, h.block⟩
theorem tok5 {w wr : World} {B : Nat} {a c d e f : Value} (T : TokBlk wr B a c d e f) (H : Below B w wr) (v0 v1 v2 v3 v4 : Value) :
    TokBlk (setTok5 wr B v0 v1 v2 v3 v4) B v0 v1 v2 v3 v4 ∧ Below B w (setTok5 wr B v0 v1 v2 v3 v4) := by
  refine ⟨((((T.set0 v0).set1 v1).set2 v2).set3 v3).put4 v4, ?_⟩
  exact Below.setCell (p := ⟨B, 4, none⟩) (Below.setCell (p := ⟨B, 3, none⟩) (Below.setCell (p := ⟨B, 2, none⟩) (Below.setCell (p := ⟨B, 1, none⟩) (Below.setCell (p := ⟨B, 0, none⟩) H (Nat.le_refl _) _) (Nat.le_refl _) _) (Nat.le_refl _) _) (Nat.le_refl _) _) (Nat.le_refl _) _

section
variable (C : Ctx) (b : Nat) (w : World) (nv : Value) (S : PS)
set_option maxRecDepth 20000 in
theorem ppeek (h : Pr C w b nv S) (t : TokL) (ht : C.T[S.at_]? = some t) : Calls Tryd.prog 21 #[.pointer (some ⟨b, 0, none⟩)] w (PeekPost C t w) := by
  obtain ⟨h0, h1, -, -, -⟩ := h.cells
  obtain ⟨ao, cap, htv, hat⟩ := C.rd.at
  obtain ⟨g, o, pv, rfl, hin⟩ := hat _ _ ht
  obtain ⟨pao, pcap, rfl, -⟩ := id hin.parts
  have PV := Lib.hid hin.parts
  have OLD := Lib.hid h.old
  have c0 := (OLD.out.cell (p := ⟨g, o + S.at_ * 5, none⟩) (World.block_lt_of_cell? _ _ hin.kind)).trans hin.kind
  have c1 := (OLD.out.cell (p := ⟨g, o + S.at_ * 5 + 1, none⟩) (World.block_lt_of_cell? _ _ hin.text)).trans hin.text
  have c2 := (OLD.out.cell (p := ⟨g, o + S.at_ * 5 + 2, none⟩) (World.block_lt_of_cell? _ _ hin.num)).trans hin.num
  have c3 := (OLD.out.cell (p := ⟨g, o + S.at_ * 5 + 3, none⟩) (World.block_lt_of_cell? _ _ hin.pv_)).trans hin.pv_
  have c4 := (OLD.out.cell (p := ⟨g, o + S.at_ * 5 + 4, none⟩) (World.block_lt_of_cell? _ _ hin.at_)).trans hin.at_
  have hlt := h.lt
  have hfew := C.few
  rw [htv] at h0
  clear hin hat htv ht
  generalize S.at_ = k at *
  generalize C.T.length = n at *
  go_enter Tryd.func21, Tryd.ntmps21
  go_upto_region 1 with fail
  have B1 := Lib.hid (show Below w.heap.size w (w.alloc (.cells #[.int .i64 0, .string ⟨#[]⟩, .int .i64 0, .slice none 0 0, .int .i64 0] 67)) from (Below.refl _ _).alloc (Nat.le_refl _) _)
  have T1 := Lib.hid (TokBlk.new w (.int .i64 0) (.string ⟨#[]⟩) (.int .i64 0) (.slice none 0 0) (.int .i64 0))
  generalize w.alloc (.cells #[.int .i64 0, .string ⟨#[]⟩, .int .i64 0, .slice none 0 0, .int .i64 0] 67) = w1 at *
  have mv : ∀ (p : Addr) (u : Value), w.cell? p = some u → w1.cell? p = some u := fun p u hu => (B1.out.cell (p := p) (World.block_lt_of_cell? _ _ hu)).trans hu
  replace h0 := mv _ _ h0
  replace h1 := mv _ _ h1
  replace c0 := mv _ _ c0
  replace c1 := mv _ _ c1
  replace c2 := mv _ _ c2
  replace c3 := mv _ _ c3
  replace c4 := mv _ _ c4
  obtain ⟨r0, r1, r2, r3, r4⟩ := T1.out.cells
  have f0 := T1.out.free 0
  have f1 := T1.out.free 1
  have f2 := T1.out.free 2
  have f3 := T1.out.free 3
  have f4 := T1.out.free 4
  clear mv
  generalize HGE : w.heap.size = G at *
  go_region
  all_goals go_wp2_with fail
  all_goals (
    obtain ⟨z, zb⟩ := tok5 T1.out B1.out (.int .i64 t.kind) (.string t.text) (.int .i64 t.num) (.slice pao t.parts.length pcap) (.int .i64 t.at_)
    show bodyPost _ _ _ _ _ (setTok5 w1 G (.int .i64 t.kind) (.string t.text) (.int .i64 t.num) (.slice pao t.parts.length pcap) (.int .i64 t.at_)).drew
    replace z := z.drew'
    replace zb := below_drew' zb
    generalize (setTok5 w1 G (.int .i64 t.kind) (.string t.text) (.int .i64 t.num) (.slice pao t.parts.length pcap) (.int .i64 t.at_)).drew = W at *
    clear r0 r1 r2 r3 r4
    obtain ⟨r0, r1, r2, r3, r4⟩ := z.cells
    refine bodyPost_ret (v := .agg #[.int .i64 t.kind, .string t.text, .int .i64 t.num, .slice pao t.parts.length pcap, .int .i64 t.at_]) (by simp [results, Tryd.results21, go_sem, r0, r1, r2, r3, r4]) rfl ?_
    exact ⟨_, rfl, PV.out, by rw [HGE]; exact zb⟩)
end
end Go.Proofs.YtkbbhgipajhbnaaDoor
