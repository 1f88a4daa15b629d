/- Package parse's recursive methods, one step: list. -/
import Derived.Test.YtkbbhgipajhbnaaDoorParG
namespace Go.Proofs.YtkbbhgipajhbnaaDoor
open Go.RowKit
set_option linter.unusedVariables false
set_option linter.unusedSimpArgs false
/-- The state of a reader among other blocks that are kept out. -/
theorem Pr.out {C : Ctx} {w : World} {b : Nat} {nv : Value} {S : PS} (h : Pr C w b nv S) (Y : Nat → Prop) (h1 : ∀ k, Y k → k < w.heap.size)
    (h2 : ∀ g, Y g → C.X g) : Pr (C.out Y) w b nv S := by
  obtain ⟨xs, o, r⟩ := h.own
  exact ⟨h.blk, h.old, h.le, ⟨xs, o, NodeRow.apart (fun v ks _ hx g hg hy => hx g hg (h2 g hy)) r⟩, h.lt, h1⟩
/-- The state of a reader where a row that is kept out has grown. -/
theorem Pr.grownOut {C : Ctx} {w w6 : World} {b n : Nat} {nv kv : Value} {S : PS} {xs : List Value} (p : Pr C w b nv S) (o : w.ownsRow (b + 1) 3 1 kv n xs) (hX : ∀ g, kv.ownBlock = some g → C.X g) (hg : w.grownBy w6 kv.ownBlock)
    (Y : Nat → Prop) (h1 : ∀ k, Y k → k < w6.heap.size) (h2 : ∀ k, Y k → C.X k ∨ w.heap.size ≤ k) : Pr (C.out Y) w6 b nv S := by
  obtain ⟨ys, q, r⟩ := p.own
  have hne : ∀ v ks, w.ownsRow (b + 1) 3 1 v (List.length ks) (kidCells ks) → (∀ g, v.ownBlock = some g → ¬ C.X g) → v.ownBlock = none ∨ v.ownBlock ≠ kv.ownBlock := by
    intro v ks h hx
    cases hv : v.ownBlock with
    | none => exact .inl rfl
    | some g => exact .inr fun e => hx g hv (hX g e.symm)
  refine ⟨(hg.block b p.hb (fun e => by have := (World.ownsRow.lt o b e.symm).1; omega)).trans p.blk, Below.grown p.old hg (Nat.le_of_lt (Nat.lt_of_le_of_lt p.le p.hb)) (fun k hk => Nat.le_trans p.le (Nat.le_of_succ_le (World.ownsRow.lt o k hk).1)), p.le, ⟨ys, World.ownsRow.kept q hg (own_apart q o (by decide)), ?_⟩, p.lt, h1⟩
  refine NodeRow.kept (fun v ks h hx => ?_) (NodeRow.apart (Y := fun k => C.X k ∨ Y k) (fun v ks h hx g hgv => ?_) r) |> NodeRow.apart (fun v ks _ hx g hgv hy => hx g hgv (.inr hy))
  · exact World.ownsRow.kept h hg (hne v ks h fun g hgv hxx => hx g hgv (.inl hxx))
  · rintro (h3 | h3)
    · exact hx g hgv h3
    · rcases h2 g h3 with h4 | h4
      · exact hx g hgv h4
      · have := (World.ownsRow.lt h g hgv).2; omega
theorem Turn.grown {b : Nat} {nv nv' : Value} {x y z : World} {row : Option Nat} (h : Turn b nv nv' x y) (hg : y.grownBy z row) (hr : ∀ k, row = some k → x.heap.size ≤ k) : Turn b nv nv' x z :=
  ⟨hg.os.trans h.os, hg.tape.trans h.tape, hg.output.trans h.output, Nat.le_trans h.size hg.size, fun i hi hne hno => (hg.block i (Nat.lt_of_lt_of_le hi h.size) (fun e => by have := hr i e.symm; omega)).trans (h.block i hi hne hno), h.own⟩
def kout (C : Ctx) (kv : Value) : Ctx := C.out fun k => C.X k ∨ kv.ownBlock = some k
theorem list_step {C : Ctx} {w w4 w6 : World} {b g cc : Nat} {nv nv4 kv : Value} {S4 : PS} {ks : List Int} {v : Int} {O : Obj} (p : Pr (kout C kv) w4 b nv4 S4) (t : Turn b nv nv4 w w4) (o : w4.ownsRow (b + 1) 3 1 kv ks.length (kidCells ks))
    (hf : ∀ g, kv.ownBlock = some g → w.heap.size ≤ g) (hown : w6.ownsRow (b + 1) 3 1 (.slice (some ⟨g, 0, none⟩) (ks.length + 1) cc) (ks.length + 1) (kidCells ks ++ [.int .i64 v])) (hg : (w4.alloc O).grownBy w6 kv.ownBlock)
    (hat : kv.ownBlock = some g ∨ g = w4.heap.size + 1) :
    Pr (kout C (.slice (some ⟨g, 0, none⟩) (ks.length + 1) cc)) w6 b nv4 S4 ∧ Turn b nv nv4 w w6 ∧ w6.ownsRow (b + 1) 3 1 (.slice (some ⟨g, 0, none⟩) (ks.length + 1) cc) (ks ++ [v]).length (kidCells (ks ++ [v])) ∧ ∀ g', (Value.slice (some ⟨g, 0, none⟩) (ks.length + 1) cc).ownBlock = some g' → w.heap.size ≤ g' := by
  have hg' := grown_trans (World.grownBy_alloc w4 O kv.ownBlock) hg
  have hlt := (World.ownsRow.lt hown g rfl).2
  refine ⟨?_, t.grown hg' hf, ?_, ?_⟩
  · refine Pr.grownOut p o (fun g h => .inr h) hg' _ ?_ ?_
    · rintro k (h | h)
      · have := p.xlt k (.inl h); have := hg'.size; omega
      · simp [Value.ownBlock] at h; omega
    · rintro k (h | h)
      · exact .inl (.inl h)
      · simp [Value.ownBlock] at h
        subst h
        rcases hat with h | h
        · exact .inl (.inr h)
        · exact .inr (by omega)
  · simpa [kidCells] using hown
  · intro g' h
    simp [Value.ownBlock] at h
    subst h
    rcases hat with h | h
    · exact hf _ h
    · have := t.size; omega
theorem info_int : (Tryd.prog.info? 3).map (fun i => (i.zero, i.size, i.bytes)) = some (some (.int .i64 0), 1, 8) := by kernel_rfl
def ListRel (C : Ctx) (n : Nat) (b : Nat) (w : World) (nv : Value) (e : ByteArray) (rs : List Int) (S' : PS) (m : Nat) (kv : Value) (wr : World) : Prop :=
  ∃ ks nv1 S1, m ≤ n ∧ ev C.T m (.lloop ks e) S1 = some (rs, S') ∧ Pr (kout C kv) wr b nv1 S1 ∧ Turn b nv nv1 w wr ∧ wr.ownsRow (b + 1) 3 1 kv ks.length (kidCells ks) ∧ (∀ g, kv.ownBlock = some g → w.heap.size ≤ g)
section
variable (C : Ctx) (n : Nat) (b : Nat) (w : World) (nv : Value) (S : PS)
set_option maxHeartbeats 4000000 in
set_option maxRecDepth 20000 in
theorem qlist (IH : ∀ m, m ≤ n → ∀ X, Grp (C.out X) m) (e : ByteArray) (rs : List Int) (S' : PS) (h : Pr C w b nv S) (hr : ev C.T (n + 1) (.list e) S = some (rs, S')) : Calls Tryd.prog 80 #[.pointer (some ⟨b, 0, none⟩), .string e] w fun e' w' => ∃ kv, PPost C b nv w kv S' e' w' ∧ w'.ownsRow (b + 1) 3 1 kv rs.length (kidCells rs) ∧ ∀ g, kv.ownBlock = some g → ¬ C.X g := by
  have H := Lib.hid h
  have XW := Lib.hid h.xlt
  have HB := Lib.hid h.hb
  obtain ⟨t, ht⟩ := h.tok
  simp only [ev, ht, Option.bind_some] at hr
  have HT := Lib.hid ht
  clear h ht
  obtain ⟨i0, hi0, hz0, hz1, hz2⟩ := info_parts info_int
  by_cases hs : t.text = e
  · rw [if_pos hs] at hr
    have DS := Lib.hid (show decide (t.text = e) = true by simpa using hs)
    simp only [Option.bind_eq_some_iff] at hr
    obtain ⟨S1, h1, hr⟩ := hr
    simp at hr
    obtain ⟨rfl, rfl⟩ := hr
    have E1 := Lib.hid h1
    clear h1 hs
    go_enter Tryd.func80, Tryd.ntmps80
    go_wp2_with fail
    refine (psees C b _ nv S H.out t HT.out e).mono ?_
    rw [DS.out]
    rintro e1 w1 ⟨rfl, hb⟩
    have K1 := Lib.hid (H.out.below hb)
    have A1 := Lib.hid (Turn.below (b := b) (nv := nv) hb)
    clear hb
    go_wp2_with fail
    refine (pclose C b _ nv S K1.out e _ E1.out).mono ?_
    rintro e2 w2 ⟨rfl, nv2, k2, a2⟩
    have K2 := Lib.hid k2
    have A2 := Lib.hid (A1.out.trans a2)
    clear k2 a2
    go_wp2_with fail
    go_ret
    exact ⟨_, ⟨rfl, nv2, K2.out, A2.out⟩, World.ownsRow_nil _ _ _ _, fun g hg => by simp [Value.ownBlock] at hg⟩
  · rw [if_neg hs] at hr
    have DS := Lib.hid (show decide (t.text = e) = false by simpa using hs)
    simp only [Option.bind_eq_some_iff, Prod.exists] at hr
    obtain ⟨v, S1, h1, h2⟩ := hr
    have E1 := Lib.hid (one_eq h1)
    have E2 := Lib.hid h2
    clear h1 hs h2
    go_enter Tryd.func80, Tryd.ntmps80
    go_wp2_with fail
    refine (psees C b _ nv S H.out t HT.out e).mono ?_
    rw [DS.out]
    rintro e1 w1 ⟨rfl, hb⟩
    have K1 := Lib.hid (show Pr (kout C (.slice none 0 0)) w1 b nv S from (H.out.below hb).out _ (by rintro k (h | h); exact Nat.lt_of_lt_of_le (XW.out k h) hb.size; simp [Value.ownBlock] at h) (by rintro k (h | h); exact h; simp [Value.ownBlock] at h))
    have A1 := Lib.hid (Turn.below (b := b) (nv := nv) hb)
    clear hb
    go_wp2_with fail
    refine ((IH n (Nat.le_refl n) _).expr b _ nv S _ _ K1.out E1.out).mono ?_
    rintro e2 w2 ⟨rfl, nv2, k2, a2⟩
    have K2 := Lib.hid (show Pr (kout C (.slice none 0 0)) w2 b nv2 S1 from k2)
    have A2 := Lib.hid (A1.out.trans a2)
    have N2 := Lib.hid (show w2.ownsRow (b + 1) 3 1 (.slice none 0 0) ([] : List Int).length (kidCells []) from World.ownsRow_nil _ _ _ _)
    have L2 := Lib.hid K2.out.hb
    clear k2 a2
    go_wp2_with (at_builtin; refine wpList_append_lies _ rfl _ _ 39 rfl (b + 1) 3 i0 _ 1 8 Tryd.underlying39 hi0 hz0 hz1 hz2 rfl (by decide) (.slice none 0 0) ([] : List Int).length (kidCells []) rfl (World.ownsRow.alloc N2.out _) ⟨w2.heap.size, 0, none⟩ 1 1 [.int .i64 v] rfl rfl ?a0 ?b0 (by omega) ?c0 ?d0 ?e0 (w2.heap.size + 1) ?f0 ?_)
    try case a0 => exact news_new w2 #[.int .i64 v] 3
    try case b0 => simp [Value.oneCell']
    try case c0 => simp [maxLen]
    try case d0 => simp
    try case e0 => have := L2.out; simp; omega
    try case f0 => simp
    intro g cc w6 hown hgrow hat _
    have ST := Lib.hid (list_step (v := v) K2.out A2.out N2.out (fun g hg => by simp [Value.ownBlock] at hg) hown hgrow hat)
    clear hown hgrow hat
    go_wp2_with fail
    go_loopg [5] n (fun m kv wr => ListRel C n b w nv e rs S' m kv wr)
    case atStart => exact ⟨[v], nv2, S1, Nat.le_refl _, E2.out, ST.out.1, ST.out.2.1, ST.out.2.2.1, ST.out.2.2.2⟩
    case round =>
      clear E1 E2 K1 A1 K2 A2 N2 L2 ST
      obtain ⟨ks, nv3, S3, hm, he, hp, ha, ho, hf⟩ := hrel
      obtain ⟨kao, kn, kcap, rfl⟩ := own_slice ho
      have HM := Lib.hid hm
      have K3 := Lib.hid hp
      have A3 := Lib.hid ha
      have O3 := Lib.hid ho
      have F3 := Lib.hid hf
      clear hm hp ha ho hf
      cases gk with
      | zero => simp [ev] at he
      | succ k =>
        simp only [ev, Option.bind_eq_some_iff, Prod.exists] at he
        obtain ⟨o, S4, h4, he⟩ := he
        have E4 := Lib.hid h4
        clear h4
        cases o
        · simp only [Bool.false_eq_true, if_false, Option.bind_eq_some_iff] at he
          obtain ⟨S5, h5, he⟩ := he
          simp at he
          obtain ⟨rfl, rfl⟩ := he
          have E5 := Lib.hid h5
          clear h5
          go_wp2_with fail
          refine (ptake (kout C _) b _ nv3 S3 K3.out ⟨#[44]⟩ _ _ E4.out).mono ?_
          rintro e3 w4 ⟨rfl, nv4, k4, a4⟩
          have O4 := Lib.hid (a4.kept K3.out O3.out (Nat.lt_succ_self b) (by decide))
          have K4 := Lib.hid k4
          have A4 := Lib.hid (A3.out.trans a4)
          clear k4 a4
          go_wp2_with fail
          refine (pclose (kout C _) b _ nv4 S4 K4.out e _ E5.out).mono ?_
          rintro e4 w5 ⟨rfl, nv5, k5, a5⟩
          have O5 := Lib.hid (a5.kept K4.out O4.out (Nat.lt_succ_self b) (by decide))
          have K5 := Lib.hid (show Pr C w5 b nv5 S5 from Pr.out (C := kout C _) k5 C.X (fun k hk => k5.xlt k (.inl hk)) (fun g hg => .inl hg))
          have A5 := Lib.hid (A4.out.trans a5)
          clear k5 a5
          go_wp2_with fail
          go_ret
          exact ⟨_, ⟨rfl, nv5, K5.out, A5.out⟩, O5.out, fun g hg hx => by have := XW.out g hx; have := F3.out g hg; omega⟩
        · simp only [if_true, Option.bind_eq_some_iff, Prod.exists] at he
          obtain ⟨x, S5, h5, he⟩ := he
          split at he
          · rename_i hl
            have HL := Lib.hid hl
            have E5 := Lib.hid (one_eq h5)
            have HE := Lib.hid he
            clear h5 he hl
            go_wp2_with fail
            refine (ptake (kout C _) b _ nv3 S3 K3.out ⟨#[44]⟩ _ _ E4.out).mono ?_
            rintro e3 w4 ⟨rfl, nv4, k4, a4⟩
            have O4 := Lib.hid (a4.kept K3.out O3.out (Nat.lt_succ_self b) (by decide))
            have K4 := Lib.hid k4
            have A4 := Lib.hid (A3.out.trans a4)
            clear k4 a4
            go_wp2_with fail
            refine ((IH k (by have := HM.out; omega) _).expr b _ nv4 _ _ _ K4.out E5.out).mono ?_
            rintro e4 w5 ⟨rfl, nv5, k5, a5⟩
            have O5 := Lib.hid (a5.kept K4.out O4.out (Nat.lt_succ_self b) (by decide))
            have K5 := Lib.hid (show Pr (kout C (.slice kao kn kcap)) w5 b nv5 S5 from k5)
            have A5 := Lib.hid (A4.out.trans a5)
            have L5 := Lib.hid K5.out.hb
            clear k5 a5
            go_wp2_with (at_builtin; refine wpList_append_lies _ rfl _ _ 39 rfl (b + 1) 3 i0 _ 1 8 Tryd.underlying39 hi0 hz0 hz1 hz2 rfl (by decide) (.slice kao kn kcap) ks.length (kidCells ks) rfl (World.ownsRow.alloc O5.out _) ⟨w5.heap.size, 0, none⟩ 1 1 [.int .i64 x] rfl rfl ?a1 ?b1 (by omega) ?c1 ?d1 ?e1 (w5.heap.size + 1) ?f1 ?_)
            try case a1 => exact news_new w5 #[.int .i64 x] 3
            try case b1 => simp [Value.oneCell']
            try case c1 => have := HL.out; unfold maxLen; omega
            try case d1 => have := HL.out; omega
            try case e1 => have := L5.out; simp; omega
            try case f1 => simp
            intro g2 cc2 w6 hown hgrow hat _
            have ST := Lib.hid (list_step (v := x) K5.out A5.out O5.out F3.out hown hgrow hat)
            clear hown hgrow hat
            go_wp2_with fail
            go_roundg k
            case rel => exact ⟨ks ++ [x], nv5, S5, by have := HM.out; omega, HE.out, ST.out.1, ST.out.2.1, ST.out.2.2.1, ST.out.2.2.2⟩
            case measure => omega
          · simp at he
end
end Go.Proofs.YtkbbhgipajhbnaaDoor
