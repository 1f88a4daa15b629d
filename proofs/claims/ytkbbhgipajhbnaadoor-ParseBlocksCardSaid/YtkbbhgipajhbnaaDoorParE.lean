/- What package parse's recursive methods come to, as a function of the tokens. -/
import Derived.Test.YtkbbhgipajhbnaaDoorParD
namespace Go.Proofs.YtkbbhgipajhbnaaDoor
open Go.RowKit
set_option linter.unusedVariables false
set_option linter.unusedSimpArgs false

inductive Cl where
  | expr
  | bin (rank : Int)
  | loop (rank left : Int)
  | un
  | ahead (kind : Int)
  | post
  | ploop (list : Int)
  | prim
  | named (x : ByteArray)
  | list (e : ByteArray)
  | lloop (ks : List Int) (e : ByteArray)
def one (r : Option (List Int × PS)) : Option (Int × PS) :=
  match r with
  | some ([v], S) => some (v, S)
  | _ => none
theorem one_eq {r : Option (List Int × PS)} {v : Int} {S : PS} (h : one r = some (v, S)) : r = some ([v], S) := by
  unfold one at h
  split at h
  · simp at h; obtain ⟨rfl, rfl⟩ := h; rfl
  · simp at h
def stepS (T : List TokL) (S : PS) : Option PS := if S.at_ + 1 < T.length then some ⟨S.at_ + 1, S.f, S.ns, S.d⟩ else none
def addE (n : NodeL) (S : PS) : Option (List Int × PS) := if S.ns.length ≤ 100000 then some ([(S.ns.length : Int)], ⟨S.at_, S.f, S.ns ++ [n], S.d⟩) else none
def ev (T : List TokL) : Nat → Cl → PS → Option (List Int × PS)
  | 0, _, _ => none
  | n + 1, .expr, S =>
    (one (ev T n (.bin 1) S)).bind fun (t, S1) => (openS T ⟨#[63]⟩ S1).bind fun (o, S2) =>
      if o then (one (ev T n .expr S2)).bind fun (y, S3) => (needS T ⟨#[58]⟩ S3).bind fun S4 => (one (ev T n .expr S4)).bind fun (z, S5) => (downS S5).bind fun S6 => addE ⟨10, 0, ⟨#[]⟩, [], [t, y, z]⟩ S6
      else some ([t], S2)
  | n + 1, .bin r, S =>
    if r = 6 then ev T n .un S else (one (ev T n (.bin (r + 1)) S)).bind fun (l, S1) => ev T n (.loop r l) S1
  | n + 1, .loop r l, S =>
    (T[S.at_]?).bind fun t => if opOf t.text r = 0 then some ([l], S) else (stepS T S).bind fun S1 => (one (ev T n (.bin (r + 1)) S1)).bind fun (x, S2) => (one (addE ⟨opOf t.text r, 0, ⟨#[]⟩, [], [l, x]⟩ S2)).bind fun (v, S3) => if r = 3 then some ([v], S3) else ev T n (.loop r v) S3
  | n + 1, .un, S =>
    (openS T ⟨#[45]⟩ S).bind fun (o, S1) => if o then ev T n (.ahead 9) S1 else (openS T ⟨#[33]⟩ S1).bind fun (p, S2) => if p then ev T n (.ahead 8) S2 else ev T n .post S2
  | n + 1, .ahead k, S => (one (ev T n .un S)).bind fun (v, S1) => (downS S1).bind fun S2 => addE ⟨k, 0, ⟨#[]⟩, [], [v]⟩ S2
  | n + 1, .post, S => (one (ev T n .prim S)).bind fun (l, S1) => ev T n (.ploop l) S1
  | n + 1, .ploop l, S =>
    (openS T ⟨#[91]⟩ S).bind fun (o, S1) => if o then (one (ev T n .expr S1)).bind fun (i, S2) => (closeS T ⟨#[93]⟩ S2).bind fun S3 => (one (addE ⟨7, 0, ⟨#[]⟩, [], [l, i]⟩ S3)).bind fun (v, S4) => ev T n (.ploop v) S4 else some ([l], S1)
  | n + 1, .prim, S =>
    (T[S.at_]?).bind fun t =>
      if t.kind = 1 then (stepS T S).bind fun S1 => addE ⟨1, t.num, ⟨#[]⟩, [], []⟩ S1
      else if t.kind = 2 then (stepS T S).bind fun S1 => addE ⟨2, 0, ⟨#[]⟩, t.parts, []⟩ S1
      else if t.kind = 3 then (stepS T S).bind fun S1 => ev T n (.named t.text) S1
      else (openS T ⟨#[91]⟩ S).bind fun (o, S1) =>
        if o then (ev T n (.list ⟨#[93]⟩) S1).bind fun (ks, S2) => addE ⟨6, 0, ⟨#[]⟩, [], ks⟩ S2
        else (openS T ⟨#[40]⟩ S1).bind fun (p, S2) =>
          if p then (one (ev T n .expr S2)).bind fun (v, S3) => (closeS T ⟨#[41]⟩ S3).bind fun S4 => some ([v], S4)
          else some ([0], failS T 5 S2)
  | n + 1, .named x, S =>
    if x = ⟨#[116, 114, 117, 101]⟩ then addE ⟨3, 1, ⟨#[]⟩, [], []⟩ S
    else if x = ⟨#[102, 97, 108, 115, 101]⟩ then addE ⟨3, 0, ⟨#[]⟩, [], []⟩ S
    else (openS T ⟨#[40]⟩ S).bind fun (o, S1) =>
      if o then (ev T n (.list ⟨#[41]⟩) S1).bind fun (ks, S2) => addE ⟨5, 0, x, [], ks⟩ S2
      else (needS T ⟨#[46]⟩ S1).bind fun S2 => (nameS T S2).bind fun (y, S3) => if x.size ≤ 10000 ∧ y.size ≤ 10000 then addE ⟨4, 0, x ++ ⟨#[46]⟩ ++ y, [], []⟩ S3 else none
  | n + 1, .list e, S =>
    (T[S.at_]?).bind fun t => if t.text = e then (closeS T e S).bind fun S1 => some ([], S1) else (one (ev T n .expr S)).bind fun (v, S1) => ev T n (.lloop [v] e) S1
  | n + 1, .lloop ks e, S =>
    (takeS T ⟨#[44]⟩ S).bind fun (o, S1) => if o then (one (ev T n .expr S1)).bind fun (v, S2) => if ks.length ≤ 100000 then ev T n (.lloop (ks ++ [v]) e) S2 else none else (closeS T e S1).bind fun S2 => some (ks, S2)

/-- What the methods do, as far as n steps tell it. -/
structure Grp (C : Ctx) (n : Nat) : Prop where
  expr : ∀ b w nv S v S', Pr C w b nv S → ev C.T n .expr S = some ([v], S') → Calls Tryd.prog 24 #[.pointer (some ⟨b, 0, none⟩)] w (PPost C b nv w (.int .i64 v) S')
  bin : ∀ r b w nv S v S', 0 ≤ r → r ≤ 6 → Pr C w b nv S → ev C.T n (.bin r) S = some ([v], S') → Calls Tryd.prog 39 #[.pointer (some ⟨b, 0, none⟩), .int .i64 r] w (PPost C b nv w (.int .i64 v) S')
  un : ∀ b w nv S v S', Pr C w b nv S → ev C.T n .un S = some ([v], S') → Calls Tryd.prog 56 #[.pointer (some ⟨b, 0, none⟩)] w (PPost C b nv w (.int .i64 v) S')
  ahead : ∀ k b w nv S v S', Pr C w b nv S → ev C.T n (.ahead k) S = some ([v], S') → Calls Tryd.prog 65 #[.pointer (some ⟨b, 0, none⟩), .int .i64 k] w (PPost C b nv w (.int .i64 v) S')
  post : ∀ b w nv S v S', Pr C w b nv S → ev C.T n .post S = some ([v], S') → Calls Tryd.prog 66 #[.pointer (some ⟨b, 0, none⟩)] w (PPost C b nv w (.int .i64 v) S')
  prim : ∀ b w nv S v S', Pr C w b nv S → ev C.T n .prim S = some ([v], S') → Calls Tryd.prog 73 #[.pointer (some ⟨b, 0, none⟩)] w (PPost C b nv w (.int .i64 v) S')
  named : ∀ x b w nv S v S', Pr C w b nv S → ev C.T n (.named x) S = some ([v], S') → Calls Tryd.prog 79 #[.pointer (some ⟨b, 0, none⟩), .string x] w (PPost C b nv w (.int .i64 v) S')
  list : ∀ e b w nv S ks S', Pr C w b nv S → ev C.T n (.list e) S = some (ks, S') → Calls Tryd.prog 80 #[.pointer (some ⟨b, 0, none⟩), .string e] w fun e' w' => ∃ kv, PPost C b nv w kv S' e' w' ∧ w'.ownsRow (b + 1) 3 1 kv ks.length (kidCells ks) ∧ ∀ g, kv.ownBlock = some g → ¬ C.X g
theorem Grp.zero (C : Ctx) : Grp C 0 := by
  constructor <;> intros <;> rename_i h <;> simp [ev] at h

section
variable (C : Ctx) (b : Nat) (w : World) (nv : Value) (S : PS)
theorem no_parts (w : World) : PartsRd w (.slice none 0 0) [] := ⟨none, 0, rfl, fun j u h => by simp [partCells] at h⟩
/-- A node whose kids were written out. -/
theorem padd_kids (h : Pr C w b nv S) (kind num : Int) (text : ByteArray) (ks : List Int) (m : Nat) (cs : Array Value) (hm : ks.length = m) (hcs : cs.toList = kidCells ks) (h1 : m ≤ 10) (v : Int) (S' : PS) (hl : addE ⟨kind, num, text, [], ks⟩ S = some ([v], S')) :
    Calls Tryd.prog 41 #[.pointer (some ⟨b, 0, none⟩), .agg #[.int .i64 kind, .int .i64 num, .string text, .slice none 0 0, .slice (some ⟨w.heap.size, 0, none⟩) m m]] (w.alloc (.cells cs 3)) (PPost C b nv w (.int .i64 v) S') := by
  unfold addE at hl
  split at hl
  · rename_i h0
    simp only [Option.some.injEq, Prod.mk.injEq, List.cons.injEq, and_true] at hl
    obtain ⟨rfl, rfl⟩ := hl
    have hb : Below w.heap.size w (w.alloc (.cells cs 3)) := (Below.refl _ _).alloc (Nat.le_refl _) _
    have hsz : cs.size = m * 1 := by rw [← Array.length_toList, hcs]; simp [kidCells, hm]
    have hk := World.ownsRow_lit (base := b + 1) (e := 3) (size := 1) w cs m h.hb (by unfold maxLen; omega) hsz
    rw [hcs] at hk
    subst hm
    exact (padd C b _ nv S (h.below hb) ⟨kind, num, text, [], ks⟩ _ _ (no_parts _) hk (fun g hg hx => by simp [Value.ownBlock] at hg; have := h.xlt g hx; omega) h0).mono fun e w' ⟨he, nv', p, t⟩ => ⟨he, nv', p, (Turn.below hb).trans t⟩
  · simp at hl
/-- A node without kids. -/
theorem padd_leaf (h : Pr C w b nv S) (kind num : Int) (text : ByteArray) (ps : List PartL) (pv : Value) (hp : PartsRd C.w0 pv ps) (v : Int) (S' : PS) (hl : addE ⟨kind, num, text, ps, []⟩ S = some ([v], S')) :
    Calls Tryd.prog 41 #[.pointer (some ⟨b, 0, none⟩), .agg #[.int .i64 kind, .int .i64 num, .string text, pv, .slice none 0 0]] w (PPost C b nv w (.int .i64 v) S') := by
  unfold addE at hl
  split at hl
  · rename_i h0
    simp only [Option.some.injEq, Prod.mk.injEq, List.cons.injEq, and_true] at hl
    obtain ⟨rfl, rfl⟩ := hl
    exact padd C b w nv S h ⟨kind, num, text, ps, []⟩ _ _ hp (World.ownsRow_nil _ _ _ _) (fun g hg => by simp [Value.ownBlock] at hg) h0
  · simp at hl
/-- A node whose kids came as a list. -/
theorem padd_row (h : Pr C w b nv S) (kind num : Int) (text : ByteArray) (ks : List Int) (kv : Value) (hk : w.ownsRow (b + 1) 3 1 kv ks.length (kidCells ks)) (hx : ∀ g, kv.ownBlock = some g → ¬ C.X g) (v : Int) (S' : PS) (hl : addE ⟨kind, num, text, [], ks⟩ S = some ([v], S')) :
    Calls Tryd.prog 41 #[.pointer (some ⟨b, 0, none⟩), .agg #[.int .i64 kind, .int .i64 num, .string text, .slice none 0 0, kv]] w (PPost C b nv w (.int .i64 v) S') := by
  unfold addE at hl
  split at hl
  · rename_i h0
    simp only [Option.some.injEq, Prod.mk.injEq, List.cons.injEq, and_true] at hl
    obtain ⟨rfl, rfl⟩ := hl
    exact padd C b w nv S h ⟨kind, num, text, [], ks⟩ _ _ (no_parts _) hk hx h0
  · simp at hl
end
end Go.Proofs.YtkbbhgipajhbnaaDoor
