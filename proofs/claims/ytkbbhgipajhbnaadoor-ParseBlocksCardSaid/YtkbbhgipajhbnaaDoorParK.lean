/- Package parse's reader of blocks: an expression's nodes, labels. -/
import Derived.Test.YtkbbhgipajhbnaaDoorParJ
namespace Go.Proofs.YtkbbhgipajhbnaaDoor
open Go.RowKit
set_option linter.unusedVariables false
set_option linter.unusedSimpArgs false

/-- The rows of these types, from block b + 1 on, stay. -/
def Keep (P : Nat → Prop) (b : Nat) (w w' : World) : Prop := ∀ k cur e, b + 1 ≤ k → P e → w.heap[k]? = some (.cells cur e (0, 0)) → w'.heap[k]? = some (.cells cur e (0, 0))
theorem Keep.own {P : Nat → Prop} {b e z n : Nat} {w w' : World} {v : Value} {xs : List Value} (h : Keep P b w w') (he : P e) (o : w.ownsRow (b + 1) e z v n xs) : w'.ownsRow (b + 1) e z v n xs := by
  refine ⟨o.1, ?_⟩
  rcases o.2 with hn | ⟨g, cap, cur, rfl, hbg, hg, r⟩
  · exact .inl hn
  · exact .inr ⟨g, cap, cur, rfl, hbg, h g cur e hbg he hg, r⟩
theorem Keep.turn {P : Nat → Prop} {b : Nat} {w w' : World} (h : Turn b nilv nilv w w') : Keep P b w w' := fun k cur e hk _ hc => (h.block k (Array.getElem?_eq_some_iff.1 hc).1 (by omega) (by simp [nilv, Value.ownBlock])).trans hc
theorem Keep.names {P : Nat → Prop} {b g : Nat} {w w' : World} {l : List ByteArray} (h : NamesAt w g l) (hg : w.grownBy w' (some g)) : Keep P b w w' := fun k cur e hk _ hc => by
  obtain ⟨es, clock, hm, -⟩ := h
  refine (hg.block k (Array.getElem?_eq_some_iff.1 hc).1 fun e => ?_).trans hc
  simp at e
  subst e
  rw [hm] at hc
  simp at hc
theorem Keep.row {b e z n : Nat} {w w' : World} {v : Value} {xs : List Value} (o : w.ownsRow (b + 1) e z v n xs) (hg : w.grownBy w' v.ownBlock) : Keep (· ≠ e) b w w' := fun k cur e' hk hne hc => by
  refine (hg.block k (Array.getElem?_eq_some_iff.1 hc).1 fun eq => ?_).trans hc
  rcases o.2 with ⟨rfl, -⟩ | ⟨g, cap, cur', rfl, hbg, hgc, -⟩
  · simp [Value.ownBlock] at eq
  · simp [Value.ownBlock] at eq
    subst eq
    rw [hgc] at hc
    simp at hc
    exact hne hc.2.symm
theorem Keep.trans {P : Nat → Prop} {b : Nat} {x y z : World} (h : Keep P b x y) (k : Keep P b y z) : Keep P b x z := fun i cur e hi hp hc => k i cur e hi hp (h i cur e hi hp hc)
theorem Keep.mono {P Q : Nat → Prop} {b : Nat} {x y : World} (h : Keep P b x y) (hq : ∀ e, Q e → P e) : Keep Q b x y := fun i cur e hi hp hc => h i cur e hi (hq e hp) hc
theorem Keep.below {P : Nat → Prop} {b : Nat} {w w' : World} (h : Below w.heap.size w w') : Keep P b w w' := fun k cur e hk _ hc => (h.block k (Array.getElem?_eq_some_iff.1 hc).1).trans hc

/-- A finished list of nodes. -/
def NodesIn (C : Ctx) (w : World) (b : Nat) (v : Value) (ns : List NodeL) : Prop :=
  ∃ xs, w.ownsRow (b + 1) 41 5 v ns.length xs ∧ NodeRow C.w0 w (fun _ => False) (b + 1) ns xs
theorem NodesIn.keep {P : Nat → Prop} {C : Ctx} {w w' : World} {b : Nat} {v : Value} {ns : List NodeL} (h : NodesIn C w b v ns) (k : Keep P b w w') (h1 : P 41) (h2 : P 3) : NodesIn C w' b v ns := by
  obtain ⟨xs, o, r⟩ := h
  exact ⟨xs, k.own h1 o, NodeRow.kept (fun _ _ q _ => k.own h2 q) r⟩
theorem Pr.nodes {C : Ctx} {w : World} {b : Nat} {nv : Value} {S : PS} (h : Pr C w b nv S) : NodesIn C w b nv S.ns := by
  obtain ⟨xs, o, r⟩ := h.own
  exact ⟨xs, o, NodeRow.apart (fun _ _ _ _ _ _ h => h) r⟩
theorem Pr.setN {C : Ctx} {w : World} {b : Nat} {nv : Value} {S : PS} (h : Pr C w b nv S) : Pr C (w.setCell ⟨b, 3, none⟩ nilv) b nilv ⟨S.at_, S.f, [], S.d⟩ :=
  ⟨heap_setCell_same w b 3 _ _ _ h.blk, h.old.setCell (p := ⟨b, 3, none⟩) h.le _, h.le, ⟨[], World.ownsRow_nil _ _ _ _, rfl⟩, h.lt, by simpa [World.setCell] using h.xlt⟩
theorem Turn.forget {b : Nat} {nv' : Value} {w w' : World} (h : Turn b nilv nv' w w') : Turn b nilv nilv w w' := ⟨h.os, h.tape, h.output, h.size, h.block, .inl rfl⟩
def treeE (N : Nat) (T : List TokL) (S : PS) : Option (List NodeL × PS) := (one (ev T N .expr ⟨S.at_, S.f, [], S.d⟩)).bind fun (_, S') => some (S'.ns, S')
def labelE (T : List TokL) (S : PS) : Option (ByteArray × PS) :=
  (T[S.at_]?).bind fun t =>
    if t.kind = 2 then
      match t.parts with
      | [(false, x)] => if x.size ≤ 100000 then (if labelB x then (stepS T S).bind fun S1 => some (x, S1) else some (⟨#[]⟩, failS T 5 S)) else none
      | _ => some (⟨#[]⟩, failS T 5 S)
    else some (⟨#[]⟩, failS T 5 S)
section
variable (C : Ctx) (b : Nat) (w : World) (nv : Value) (S : PS)
set_option maxRecDepth 20000 in
theorem ptree (h : Pr C w b nv S) (N : Nat) (ns : List NodeL) (S' : PS) (hr : treeE N C.T S = some (ns, S')) :
    Calls Tryd.prog 15 #[.pointer (some ⟨b, 0, none⟩)] w fun e w' => ∃ v, e = .returned v ∧ NodesIn C w' b v ns ∧ Pr C w' b v S' ∧ Turn b nilv nilv w w' := by
  simp only [treeE, Option.bind_eq_some_iff, Prod.exists] at hr
  obtain ⟨x, S1, h1, hr⟩ := hr
  simp at hr
  obtain ⟨rfl, rfl⟩ := hr
  have E1 := Lib.hid (one_eq h1)
  have K1 := Lib.hid (show Pr C (w.setCell ⟨b, 3, none⟩ (.slice none 0 0)) b nilv ⟨S.at_, S.f, [], S.d⟩ from h.setN)
  have A1 := Lib.hid (show Turn b nilv nilv w (w.setCell ⟨b, 3, none⟩ (.slice none 0 0)) from Turn.set b nilv w 3 nilv)
  obtain ⟨-, -, -, c3, -⟩ := h.cells
  have f3 := h.free 3
  clear h h1
  go_enter Tryd.func15, Tryd.ntmps15
  go_upto_region 2 with fail
  generalize w.setCell ⟨b, 3, none⟩ (.slice none 0 0) = w1 at *
  clear c3 f3
  go_wp2_with fail
  refine ((Grp.all N C).expr b _ nilv _ _ _ K1.out E1.out).mono ?_
  rintro e w2 ⟨rfl, nv2, k2, a2⟩
  have K2 := Lib.hid k2
  have A2 := Lib.hid (A1.out.trans a2.forget)
  have N2 := Lib.hid k2.nodes
  obtain ⟨-, -, -, c3, -⟩ := k2.cells
  obtain ⟨xs, o, -⟩ := k2.own
  obtain ⟨nao, nn, ncap, rfl⟩ := own_slice o
  clear k2 a2 o
  go_wp2_with fail
  go_ret
  exact ⟨_, rfl, N2.out, K2.out, A2.out⟩
end
end Go.Proofs.YtkbbhgipajhbnaaDoor
