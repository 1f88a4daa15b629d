/- Package parse's reader of blocks: the attributes of a body. -/
import Derived.Test.YtkbbhgipajhbnaaDoorParL
namespace Go.Proofs.YtkbbhgipajhbnaaDoor
open Go.RowKit Go.Maps
set_option linter.unusedVariables false
set_option linter.unusedSimpArgs false

structure AttrL where
  name : ByteArray
  expr : List NodeL
def AttrRow (C : Ctx) (w : World) (b : Nat) : List AttrL → List Value → Prop
  | [], xs => xs = []
  | a :: al, xs => ∃ nv rest, xs = [.string a.name, nv] ++ rest ∧ NodesIn C w b nv a.expr ∧ AttrRow C w b al rest
/-- A finished list of attributes. -/
def AttrsIn (C : Ctx) (w : World) (b : Nat) (v : Value) (l : List AttrL) : Prop :=
  ∃ xs, w.ownsRow (b + 1) 37 2 v l.length xs ∧ AttrRow C w b l xs
theorem AttrRow.keep {P : Nat → Prop} {C : Ctx} {w w' : World} {b : Nat} (k : Keep P b w w') (h1 : P 41) (h2 : P 3) : ∀ {l : List AttrL} {xs : List Value}, AttrRow C w b l xs → AttrRow C w' b l xs := by
  intro l
  induction l with
  | nil => intro xs h; exact h
  | cons a al ih => intro xs h; obtain ⟨nv, rest, rfl, ha, hr⟩ := h; exact ⟨nv, rest, rfl, ha.keep k h1 h2, ih hr⟩
theorem AttrRow.snoc {C : Ctx} {w : World} {b : Nat} {nv : Value} {a : AttrL} (hn : NodesIn C w b nv a.expr) : ∀ {l : List AttrL} {xs : List Value}, AttrRow C w b l xs → AttrRow C w b (l ++ [a]) (xs ++ [.string a.name, nv]) := by
  intro l
  induction l with
  | nil => intro xs h; have h : xs = [] := h; subst h; exact ⟨nv, [], by simp, hn, rfl⟩
  | cons c al ih => intro xs h; obtain ⟨mv, rest, rfl, ha, hr⟩ := h; exact ⟨mv, rest ++ [.string a.name, nv], by simp, ha, ih hr⟩
theorem AttrsIn.keep {P : Nat → Prop} {C : Ctx} {w w' : World} {b : Nat} {v : Value} {l : List AttrL} (h : AttrsIn C w b v l) (k : Keep P b w w') (h0 : P 37) (h1 : P 41) (h2 : P 3) : AttrsIn C w' b v l := by
  obtain ⟨xs, o, r⟩ := h
  exact ⟨xs, k.own h0 o, AttrRow.keep k h1 h2 r⟩
def attrE (N : Nat) (T : List TokL) : Nat → List AttrL → PS → Option (List AttrL × PS)
  | 0, _, _ => none
  | m + 1, l, S => (T[S.at_]?).bind fun t =>
      if t.kind = 3 then
        (if t.text.size ≤ 100000 ∧ l.length ≤ 100000 then
          (if inNames t.text (l.map (·.name)) then some ([], failS T 3 S)
           else (nameS T S).bind fun (x, S1) => (needS T ⟨#[61]⟩ S1).bind fun S2 => (treeE N T S2).bind fun (ns, S3) => attrE N T m (l ++ [⟨t.text, ns⟩]) S3)
         else none)
      else some (l, S)
theorem info_attr : (Tryd.prog.info? 37).map (fun i => (i.zero, i.size, i.bytes)) = some (some (.agg #[.string ⟨#[]⟩, .slice none 0 0]), 2, 40) := by kernel_rfl
/-- The state of a reader where rows of another type have turned. -/
theorem Pr.keep {C : Ctx} {w w' : World} {b : Nat} {nv : Value} {S : PS} {P : Nat → Prop} (p : Pr C w b nv S) (k : Keep P b w w') (h1 : P 41) (h2 : P 3) (hb : w'.heap[b]? = w.heap[b]?) (ho : Below b w w') : Pr C w' b nv S := by
  obtain ⟨xs, o, r⟩ := p.own
  exact ⟨hb.trans p.blk, p.old.trans (ho.mono p.le), p.le, ⟨xs, k.own h1 o, NodeRow.kept (fun _ _ q _ => k.own h2 q) r⟩, p.lt, fun j hj => Nat.lt_of_lt_of_le (p.xlt j hj) ho.size⟩
theorem Pr.grownBy {C : Ctx} {w w' : World} {b : Nat} {nv : Value} {S : PS} {P : Nat → Prop} {row : Option Nat} (p : Pr C w b nv S) (k : Keep P b w w') (h1 : P 41) (h2 : P 3) (hg : w.grownBy w' row) (hr : ∀ j, row = some j → b < j) : Pr C w' b nv S :=
  p.keep k h1 h2 (hg.block b p.hb (fun e => Nat.lt_irrefl b (hr b e.symm))) (Below.grown (Below.refl b w) hg (Nat.le_of_lt p.hb) (fun j hj => Nat.le_of_lt (hr j hj)))
def AttrRel (C : Ctx) (N M : Nat) (b : Nat) (w : World) (rs : List AttrL) (S' : PS) (m : Nat) (lv : Value) (wr : World) : Prop :=
  ∃ l nv1 S1, m ≤ M ∧ attrE N C.T m l S1 = some (rs, S') ∧ Pr C wr b nv1 S1 ∧ Turn b nilv nilv w wr ∧ AttrsIn C wr b lv l ∧ (∀ g, lv.ownBlock = some g → w.heap.size ≤ g) ∧ NamesAt wr w.heap.size (l.map (·.name))
/-- Where an attribute has been added. -/
theorem attr_step {C : Ctx} {w w4 w6 : World} {b g cc : Nat} {nv4 lv nv : Value} {S4 : PS} {l : List AttrL} {a : AttrL} {O : Obj} (hbw : b < w.heap.size) (p : Pr C w4 b nv4 S4) (t : Turn b nilv nilv w w4) (hl : AttrsIn C w4 b lv l) (hf : ∀ g, lv.ownBlock = some g → w.heap.size ≤ g)
    (hn : NamesAt w4 w.heap.size ((l ++ [a]).map (·.name))) (ha : NodesIn C w4 b nv a.expr) {xs : List Value} (ho : w4.ownsRow (b + 1) 37 2 lv l.length xs) (hr : AttrRow C w4 b l xs)
    (hown : w6.ownsRow (b + 1) 37 2 (.slice (some ⟨g, 0, none⟩) (l.length + 1) cc) (l.length + 1) (xs ++ [.string a.name, nv])) (hg : (w4.alloc O).grownBy w6 lv.ownBlock) (hat : lv.ownBlock = some g ∨ g = w4.heap.size + 1) :
    Pr C w6 b nv4 S4 ∧ Turn b nilv nilv w w6 ∧ AttrsIn C w6 b (.slice (some ⟨g, 0, none⟩) (l.length + 1) cc) (l ++ [a]) ∧ (∀ g', (Value.slice (some ⟨g, 0, none⟩) (l.length + 1) cc).ownBlock = some g' → w.heap.size ≤ g') ∧ NamesAt w6 w.heap.size ((l ++ [a]).map (·.name)) := by
  have hg' := grown_trans (World.grownBy_alloc w4 O lv.ownBlock) hg
  have k : Keep (· ≠ 37) b w4 w6 := Keep.row ho hg'
  have hne : ∀ j, lv.ownBlock = some j → b < j := fun j hj => (World.ownsRow.lt ho j hj).1
  refine ⟨p.grownBy k (by decide) (by decide) hg' hne, t.grown hg' hf, ⟨xs ++ [.string a.name, nv], by simpa using hown, AttrRow.snoc (ha.keep k (by decide) (by decide)) (AttrRow.keep k (by decide) (by decide) hr)⟩, ?_, ?_⟩
  · intro g' h
    simp [Value.ownBlock] at h
    subst h
    rcases hat with h | h
    · exact hf _ h
    · have := t.size; omega
  · refine NamesAt.same hn (hg'.block _ (NamesAt.lt hn) fun e => ?_)
    obtain ⟨es, clock, hm, -⟩ := hn
    rcases ho.2 with ⟨rfl, -⟩ | ⟨g2, cap, cur', rfl, hbg, hgc, -⟩
    · simp [Value.ownBlock] at e
    · simp [Value.ownBlock] at e
      subst e
      rw [hm] at hgc
      simp at hgc
section
variable (C : Ctx) (b : Nat) (w : World) (nv : Value) (S : PS)
set_option maxHeartbeats 4000000 in
set_option maxRecDepth 20000 in
theorem pattrs (N M : Nat) (h : Pr C w b nv S) (rs : List AttrL) (S' : PS) (hr : attrE N C.T M [] S = some (rs, S')) :
    Calls Tryd.prog 38 #[.pointer (some ⟨b, 0, none⟩)] w fun e w' => ∃ v nv', e = .returned v ∧ AttrsIn C w' b v rs ∧ Pr C w' b nv' S' ∧ Turn b nilv nilv w w' := by
  have H := Lib.hid h
  have HB := Lib.hid h.hb
  have E0 := Lib.hid hr
  clear h hr
  have hmm := @run_makeMap Tryd.prog
  obtain ⟨i0, hi0, hz0, hz1, hz2⟩ := info_parts info_attr
  have B0 := Lib.hid (show Below w.heap.size w (w.alloc (.map #[] 0)) from (Below.refl _ _).alloc (Nat.le_refl _) _)
  have M0 := Lib.hid (show NamesAt (w.alloc (.map #[] 0)) w.heap.size [] from World.ownsMap_made _ _ _ _)
  go_enter Tryd.func38, Tryd.ntmps38
  go_wp2_with fail
  go_loopg [3] M (fun m lv wr => AttrRel C N M b w rs S' m lv wr)
  case atStart => exact ⟨[], nv, S, Nat.le_refl _, E0.out, H.out.below B0.out, Turn.below B0.out, ⟨[], World.ownsRow_nil _ _ _ _, rfl⟩, fun g hg => by simp [Value.ownBlock] at hg, M0.out⟩
  case round =>
    clear E0 M0 B0 H
    obtain ⟨l, nv2, S2, hm, he, hp, ha, hl, hf, hn⟩ := hrel
    obtain ⟨xs, ho, hrow⟩ := hl
    obtain ⟨lao, ln, lcap, rfl⟩ := own_slice ho
    have HM := Lib.hid hm
    have K2 := Lib.hid hp
    have A2 := Lib.hid ha
    have O2 := Lib.hid ho
    have R2 := Lib.hid hrow
    have F2 := Lib.hid hf
    have N2 := Lib.hid hn
    clear hm hp ha ho hrow hf hn
    cases gk with
    | zero => simp [attrE] at he
    | succ k =>
      obtain ⟨t, ht⟩ := K2.out.tok
      simp only [attrE, ht, Option.bind_some] at he
      have HT := Lib.hid ht
      clear ht
      by_cases k3 : t.kind = 3
      · rw [if_pos k3] at he
        have g3 : (t.kind == 3) = true := by simpa using k3
        clear k3
        split at he
        · rename_i hz
          have HZ := Lib.hid hz
          clear hz
          go_wp2_with fail
          refine (ppeek C b _ nv2 S2 K2.out t HT.out).mono ?_
          rintro e w3 ⟨pv, rfl, -, hb3⟩
          have K3 := Lib.hid (K2.out.below hb3)
          have A3 := Lib.hid (A2.out.trans (Turn.below (b := b) (nv := nilv) hb3))
          have O3 := Lib.hid (own_below O2.out hb3)
          have R3 := Lib.hid (AttrRow.keep (P := fun _ => True) (Keep.below (b := b) hb3) trivial trivial R2.out)
          have N3 := Lib.hid (N2.out.same (hb3.block _ N2.out.lt))
          have q0 := fld0 w3 (.int .i64 t.kind) (.string t.text) (.int .i64 t.num) pv (.int .i64 t.at_)
          clear hb3
          go_wp2_with fail
          clear q0
          refine (ppeek C b _ nv2 S2 K3.out t HT.out).mono ?_
          rintro e w4 ⟨pv4, rfl, -, hb4⟩
          have K4 := Lib.hid (K3.out.below hb4)
          have A4 := Lib.hid (A3.out.trans (Turn.below (b := b) (nv := nilv) hb4))
          have O4 := Lib.hid (own_below O3.out hb4)
          have R4 := Lib.hid (AttrRow.keep (P := fun _ => True) (Keep.below (b := b) hb4) trivial trivial R3.out)
          have N4 := Lib.hid (N3.out.same (hb4.block _ N3.out.lt))
          have q1 := fld1 w4 (.int .i64 t.kind) (.string t.text) (.int .i64 t.num) pv4 (.int .i64 t.at_)
          clear hb4
          go_wp2_with fail
          clear q1
          refine (padd_name _ w.heap.size (l.map (·.name)) t.text N4.out (by have := HZ.out.1; unfold maxLen; omega) (by have := HZ.out.2; simpa using this)).mono ?_
          rintro e w5 ⟨rfl, hg5, hn5⟩
          have K5 := Lib.hid (K4.out.grownBy (P := fun _ => True) (Keep.names N4.out hg5) trivial trivial hg5 (fun j hj => by have := HB.out; simp at hj; omega))
          have A5 := Lib.hid (A4.out.grown hg5 (fun j hj => by simp at hj; omega))
          have O5 := Lib.hid ((Keep.names (P := fun _ => True) (b := b) N4.out hg5).own trivial O4.out)
          have R5 := Lib.hid (AttrRow.keep (P := fun _ => True) (Keep.names N4.out hg5) trivial trivial R4.out)
          have N5 := Lib.hid hn5
          clear hg5 hn5
          cases hi : inNames t.text (l.map (·.name))
          · rw [hi] at he
            simp only [Bool.false_eq_true, if_false, Option.bind_eq_some_iff, Prod.exists] at he
            obtain ⟨x, S3, h3, S4, h4, ns, S5, h5, he⟩ := he
            have N6 := Lib.hid (show NamesAt w5 w.heap.size ((l ++ [(⟨t.text, ns⟩ : AttrL)]).map (·.name)) by have := N5.out; rw [hi] at this; simpa using this)
            have hx : x = t.text := by
              have h := h3
              rw [nameS, HT.out] at h
              simp only at h
              split at h
              · split at h
                · simp at h; exact h.1.symm
                · simp at h
              · rename_i hk; exact absurd (by simpa using g3) hk
            subst hx
            have E3 := Lib.hid h3
            have E4 := Lib.hid h4
            have E5 := Lib.hid h5
            have HE := Lib.hid he
            have gi : (!inNames t.text (l.map (·.name))) = true := by rw [hi]; rfl
            clear h3 h4 h5 he hi N5
            go_wp2_with fail
            refine (pname0 C b _ nv2 S2 K5.out _ _ E3.out).mono ?_
            rintro e w6 ⟨rfl, k6, a6⟩
            have K6 := Lib.hid k6
            have A6 := Lib.hid (A5.out.trans a6)
            have O6 := Lib.hid ((Keep.turn (P := fun _ => True) a6).own trivial O5.out)
            have R6 := Lib.hid (AttrRow.keep (P := fun _ => True) (Keep.turn a6) trivial trivial R5.out)
            have N7 := Lib.hid (N6.out.same (a6.block _ N6.out.lt (Nat.ne_of_gt HB.out) (by simp [nilv, Value.ownBlock])))
            clear k6 a6
            go_wp2_with fail
            refine (pneed0 C b _ nv2 _ K6.out ⟨#[61]⟩ _ E4.out).mono ?_
            rintro e w7 ⟨rfl, k7, a7⟩
            have K7 := Lib.hid k7
            have A7 := Lib.hid (A6.out.trans a7)
            have O7 := Lib.hid ((Keep.turn (P := fun _ => True) a7).own trivial O6.out)
            have R7 := Lib.hid (AttrRow.keep (P := fun _ => True) (Keep.turn a7) trivial trivial R6.out)
            have N8 := Lib.hid (N7.out.same (a7.block _ N7.out.lt (Nat.ne_of_gt HB.out) (by simp [nilv, Value.ownBlock])))
            clear k7 a7
            go_wp2_with fail
            refine (ptree C b _ nv2 _ K7.out N _ _ E5.out).mono ?_
            rintro e w8 ⟨tv, rfl, htn, k8, a8⟩
            obtain ⟨ys, hy, -⟩ := id htn
            obtain ⟨tao, tn, tcap, rfl⟩ := own_slice hy
            have T8 := Lib.hid htn
            have K8 := Lib.hid k8
            have A8 := Lib.hid (A7.out.trans a8)
            have O8 := Lib.hid ((Keep.turn (P := fun _ => True) a8).own trivial O7.out)
            have R8 := Lib.hid (AttrRow.keep (P := fun _ => True) (Keep.turn a8) trivial trivial R7.out)
            have N9 := Lib.hid (N8.out.same (a8.block _ N8.out.lt (Nat.ne_of_gt HB.out) (by simp [nilv, Value.ownBlock])))
            have L8 := Lib.hid k8.hb
            clear k8 a8 hy htn
            go_wp2_with (at_builtin; refine wpList_append_lies _ rfl _ _ 31 rfl (b + 1) 37 i0 _ 2 40 Tryd.underlying31 hi0 hz0 hz1 hz2 rfl (by decide) (.slice lao ln lcap) l.length xs rfl (World.ownsRow.alloc O8.out _) ⟨w8.heap.size, 0, none⟩ 1 1 [.string t.text, .slice tao tn tcap] rfl rfl ?a1 ?b1 (by omega) ?c1 ?d1 ?e1 (w8.heap.size + 1) ?f1 ?_)
            try case a1 => exact news_new w8 #[.string t.text, .slice tao tn tcap] 37
            try case b1 => simp [Value.oneCell']
            try case c1 => have := HZ.out.2; unfold maxLen; omega
            try case d1 => have := HZ.out.2; omega
            try case e1 => have := L8.out; simp; omega
            try case f1 => simp
            intro g2 cc2 w9 hown hgrow hat _
            have ST := Lib.hid (attr_step (a := ⟨t.text, ns⟩) HB.out K8.out A8.out ⟨xs, O8.out, R8.out⟩ F2.out N9.out T8.out O8.out R8.out hown hgrow hat)
            clear hown hgrow hat
            go_wp2_with fail
            go_roundg k
            case rel => exact ⟨l ++ [⟨t.text, ns⟩], _, S5, by have := HM.out; omega, HE.out, ST.out.1, ST.out.2.1, ST.out.2.2.1, ST.out.2.2.2.1, ST.out.2.2.2.2⟩
            case measure => omega
          · rw [hi] at he
            simp at he
            obtain ⟨rfl, rfl⟩ := he
            have gi : (!inNames t.text (l.map (·.name))) = false := by rw [hi]; rfl
            clear hi
            go_wp2_with fail
            refine (pfail0 C b _ nv2 S2 K5.out 3).mono ?_
            rintro e w6 ⟨rfl, k6, a6⟩
            have K6 := Lib.hid k6
            have A6 := Lib.hid (A5.out.trans a6)
            clear k6 a6
            go_wp2_with fail
            go_ret
            exact ⟨_, nv2, rfl, ⟨[], World.ownsRow_nil _ _ _ _, rfl⟩, K6.out, A6.out⟩
        · simp at he
      · rw [if_neg k3] at he
        simp at he
        obtain ⟨rfl, rfl⟩ := he
        have g3 : (t.kind == 3) = false := by simpa using k3
        clear k3
        go_wp2_with fail
        refine (ppeek C b _ nv2 S2 K2.out t HT.out).mono ?_
        rintro e w3 ⟨pv, rfl, -, hb3⟩
        have K3 := Lib.hid (K2.out.below hb3)
        have A3 := Lib.hid (A2.out.trans (Turn.below (b := b) (nv := nilv) hb3))
        have O3 := Lib.hid (own_below O2.out hb3)
        have R3 := Lib.hid (AttrRow.keep (P := fun _ => True) (Keep.below (b := b) hb3) trivial trivial R2.out)
        have q0 := fld0 w3 (.int .i64 t.kind) (.string t.text) (.int .i64 t.num) pv (.int .i64 t.at_)
        clear hb3
        go_wp2_with fail
        go_ret
        exact ⟨_, nv2, rfl, ⟨xs, O3.out, R3.out⟩, K3.out, A3.out⟩
end
end Go.Proofs.YtkbbhgipajhbnaaDoor
