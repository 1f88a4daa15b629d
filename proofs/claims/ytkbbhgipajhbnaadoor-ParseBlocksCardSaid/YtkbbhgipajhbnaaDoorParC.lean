/- The contracts of package parse's reader of expressions: add, open, close, operator. -/
import Derived.Test.YtkbbhgipajhbnaaDoorParB
import Derived.Deep.AppendLies
namespace Go.Proofs.YtkbbhgipajhbnaaDoor
open Go.RowKit
set_option linter.unusedVariables false
set_option linter.unusedSimpArgs false

theorem info_node : (Tryd.prog.info? 41).map (fun i => (i.zero, i.size, i.bytes)) = some (some (.agg #[.int .i64 0, .int .i64 0, .string ⟨#[]⟩, .slice none 0 0, .slice none 0 0]), 5, 80) := by kernel_rfl
theorem pr_far {C : Ctx} {w w6 : World} {b : Nat} {nv : Value} {S : PS} (p : Pr C w b nv S) (hg : w.grownBy w6 nv.ownBlock) : w6.heap[b]? = w.heap[b]? := by
  obtain ⟨xs, o, -⟩ := p.own
  exact hg.block b p.hb (fun e => by have := (World.ownsRow.lt o b e.symm).1; omega)
theorem add_done {C : Ctx} {w w6 : World} {b g m cc : Nat} {nv pv kv : Value} {S : PS} {xs : List Value} {n : NodeL} (p : Pr C w b nv S) (ho : w.ownsRow (b + 1) 41 5 nv S.ns.length xs) (hr : NodeRow C.w0 w C.X (b + 1) S.ns xs)
    (hg : w.grownBy w6 nv.ownBlock) (hp : PartsRd C.w0 pv n.parts) (hk : w.ownsRow (b + 1) 3 1 kv n.kids.length (kidCells n.kids))
    (hx : ∀ g, kv.ownBlock = some g → ¬ C.X g) (hown : w6.ownsRow (b + 1) 41 5 (.slice (some ⟨g, 0, none⟩) m cc) (S.ns.length + 1) (xs ++ nodeCells n pv kv)) (hat : nv.ownBlock = some g ∨ w.heap.size ≤ g) :
    Pr C (w6.setCell ⟨b, 3, none⟩ (.slice (some ⟨g, 0, none⟩) m cc)) b (.slice (some ⟨g, 0, none⟩) m cc) ⟨S.at_, S.f, S.ns ++ [n], S.d⟩ ∧ Turn b nv (.slice (some ⟨g, 0, none⟩) m cc) w (w6.setCell ⟨b, 3, none⟩ (.slice (some ⟨g, 0, none⟩) m cc)) := by
  have hfar := pr_far p hg
  have hkeep : ∀ v ks, w.ownsRow (b + 1) 3 1 v (List.length ks) (kidCells ks) → (w6.setCell ⟨b, 3, none⟩ (.slice (some ⟨g, 0, none⟩) m cc)).ownsRow (b + 1) 3 1 v (List.length ks) (kidCells ks) := fun v ks h =>
    own_set (p := ⟨b, 3, none⟩) (World.ownsRow.kept h hg (own_apart h ho (by decide))) (Nat.lt_succ_self b) _
  have hold : Below C.w0.heap.size C.w0 w6 := Below.grown p.old hg (by have := p.hb; have := p.le; omega) (fun k hk => by have := (World.ownsRow.lt ho k hk).1; have := p.le; omega)
  refine ⟨⟨heap_setCell_same w6 b 3 _ _ _ (hfar.trans p.blk), hold.setCell (p := ⟨b, 3, none⟩) p.le _, p.le, ⟨xs ++ nodeCells n pv kv, ?_, ?_⟩, p.lt, fun k hk => by have := p.xlt k hk; have := hg.size; simp [World.setCell]; omega⟩, ?_⟩
  · have h := own_set (p := ⟨b, 3, none⟩) hown (Nat.lt_succ_self b) (.slice (some ⟨g, 0, none⟩) m cc)
    simpa using h
  · exact NodeRow.snoc hp (hkeep _ _ hk) hx (NodeRow.kept (fun v ks h _ => hkeep v ks h) hr)
  · refine ⟨hg.os, hg.tape, hg.output, by simpa [World.setCell] using hg.size, fun k hk hne hno => (Below.heap_setCell _ _ _ _ hne).trans (hg.block k hk (fun e => hno e.symm)), ?_⟩
    rcases hat with h | h
    · exact .inl (by rw [h]; rfl)
    · exact .inr fun k hk => by simp [Value.ownBlock] at hk; omega
section
variable (C : Ctx) (b : Nat) (w : World) (nv : Value) (S : PS)
set_option maxHeartbeats 4000000 in
set_option maxRecDepth 20000 in
theorem padd (h : Pr C w b nv S) (n : NodeL) (pv kv : Value) (hp : PartsRd C.w0 pv n.parts) (hk : w.ownsRow (b + 1) 3 1 kv n.kids.length (kidCells n.kids)) (hx : ∀ g, kv.ownBlock = some g → ¬ C.X g) (hl : S.ns.length ≤ 100000) :
    Calls Tryd.prog 41 #[.pointer (some ⟨b, 0, none⟩), .agg #[.int .i64 n.kind, .int .i64 n.num, .string n.text, pv, kv]] w (PPost C b nv w (.int .i64 S.ns.length) ⟨S.at_, S.f, S.ns ++ [n], S.d⟩) := by
  obtain ⟨pao, pcap, rfl, -⟩ := id hp
  generalize hpn : n.parts.length = pn at *
  obtain ⟨kao, kn, kcap, rfl⟩ := own_slice hk
  have B1 := Lib.hid (show Below w.heap.size w (w.alloc (.cells #[.int .i64 n.kind, .int .i64 n.num, .string n.text, .slice pao pn pcap, .slice kao kn kcap] 41)) from (Below.refl _ _).alloc (Nat.le_refl _) _)
  have NB := Lib.hid (show (w.alloc (.cells #[.int .i64 n.kind, .int .i64 n.num, .string n.text, .slice pao pn pcap, .slice kao kn kcap] 41)).heap[w.heap.size]? = some (.cells #[.int .i64 n.kind, .int .i64 n.num, .string n.text, .slice pao pn pcap, .slice kao kn kcap] 41 (0, 0)) from heap_alloc_new w _)
  have H1 := Lib.hid (h.below B1.out)
  have K1 := Lib.hid (own_below hk B1.out)
  have HP := Lib.hid hp
  have HX := Lib.hid hx
  obtain ⟨xs, o1, r1⟩ := H1.out.own
  have O1 := Lib.hid o1
  have R1 := Lib.hid r1
  have HF := Lib.hid (show S.ns.length + 1 ≤ maxLen ∧ (S.ns.length + 1) * 80 ≤ 140737488355328 by unfold maxLen; omega)
  have HL := Lib.hid hl
  clear h hk hp hx o1 r1 hpn
  go_enter Tryd.func41, Tryd.ntmps41
  go_upto_region 1 with fail
  generalize w.alloc (.cells #[.int .i64 n.kind, .int .i64 n.num, .string n.text, .slice pao pn pcap, .slice kao kn kcap] 41) = w1 at *
  generalize hG : w.heap.size = G at *
  obtain ⟨-, -, -, h3, -⟩ := H1.out.cells
  have f3 := H1.out.free 3
  have n0 := cell_of_row w1 G 0 _ _ _ NB.out
  have n1 := cell_of_row w1 G 1 _ _ _ NB.out
  have n2 := cell_of_row w1 G 2 _ _ _ NB.out
  have n3 := cell_of_row w1 G 3 _ _ _ NB.out
  have n4 := cell_of_row w1 G 4 _ _ _ NB.out
  simp at n0 n1 n2 n3 n4
  have LT := Lib.hid H1.out.hb
  have lb := LT.out
  have lG : G < w1.heap.size := (Array.getElem?_eq_some_iff.1 NB.out).1
  obtain ⟨i0, hi0, hz0, hz1, hz2⟩ := info_parts info_node
  go_region_law (first | (refine step_append_lies _ (by rfl) _ _ _ (by rfl) (b + 1) 41 i0 _ 5 80 Tryd.underlying35 hi0 hz0 hz1 hz2 rfl (by omega) nv S.ns.length xs (by rfl) (by exact (World.ownsRow.alloc O1.out _)) ⟨w1.heap.size, 0, none⟩ 1 1 [.int .i64 n.kind, .int .i64 n.num, .string n.text, .slice pao pn pcap, .slice kao kn kcap] (by rfl) (by rfl) (by exact (news_new w1 #[.int .i64 n.kind, .int .i64 n.num, .string n.text, .slice pao pn pcap, .slice kao kn kcap] 41)) (by simp [Value.oneCell']) (by omega) HF.out.1 HF.out.2 (by have := LT.out; simp; omega) (w1.heap.size + 1) (by simp) ?_; intro gg cc w6 hown' hgrow hat hlt; have hg6 := grown_trans (World.grownBy_alloc w1 _ _) (grown_drewL hgrow); have hfar := pr_far H1.out hg6; have g36 : w6.cell? ⟨b, 3, none⟩ = some nv := (World.cell?_of_block (a := ⟨b, 3, none⟩) hfar).trans h3; have g46 : w6.frozen? ⟨b, 3, none⟩ = false := (World.frozen?_of_block (a := ⟨b, 3, none⟩) hfar).trans f3))
  all_goals (
    have D := Lib.hid (add_done (n := n) H1.out O1.out R1.out hg6 HP.out K1.out HX.out hown' (by rcases hat with h | h; exact .inl h; exact .inr (by omega)))
    clear hown' hgrow hat hlt hg6 hfar n0 n1 n2 n3 n4 h3 f3)
  all_goals (
    have PT := Lib.hid D.out.1
    have TT := Lib.hid ((Turn.below (b := b) (nv := nv) (x := w) (y := w1) (by rw [hG]; exact B1.out)).trans D.out.2)
    clear D g36 g46
    generalize w6.setCell ⟨b, 3, none⟩ (.slice (some ⟨gg, 0, none⟩) (S.ns.length + 1) cc) = W at *
    obtain ⟨-, -, -, h3, -⟩ := PT.out.cells)
  all_goals go_wp2_with fail
  all_goals go_ret
  all_goals exact ⟨by first | rfl | (simp; done) | (congr 2; omega), _, PT.out, TT.out⟩
/-- A sign opens something: one deeper. -/
def openS (T : List TokL) (sg : ByteArray) (S : PS) : Option (Bool × PS) :=
  match takeS T sg S with
  | none => none
  | some (false, S') => some (false, S')
  | some (true, S') => if 0 ≤ S'.d ∧ S'.d ≤ 1000 then some (true, if S'.d + 1 > 64 then failS T 6 ⟨S'.at_, S'.f, S'.ns, S'.d + 1⟩ else ⟨S'.at_, S'.f, S'.ns, S'.d + 1⟩) else none
def downS (S : PS) : Option PS := if 0 < S.d ∧ S.d ≤ 1000 then some ⟨S.at_, S.f, S.ns, S.d - 1⟩ else none
def closeS (T : List TokL) (sg : ByteArray) (S : PS) : Option PS :=
  match needS T sg S with
  | none => none
  | some S' => downS S'
set_option maxRecDepth 20000 in
theorem popen_ (h : Pr C w b nv S) (sg : ByteArray) (r : Bool) (S' : PS) (hr : openS C.T sg S = some (r, S')) : Calls Tryd.prog 40 #[.pointer (some ⟨b, 0, none⟩), .string sg] w (PPost C b nv w (.bool r) S') := by
  have H := Lib.hid h
  clear h
  unfold openS at hr
  split at hr
  · simp at hr
  · rename_i S1 hk
    simp only [Option.some.injEq, Prod.mk.injEq] at hr
    obtain ⟨rfl, rfl⟩ := hr
    have HK := Lib.hid hk
    clear hk
    go_enter Tryd.func40, Tryd.ntmps40
    go_wp2_with fail
    refine (ptake C b _ nv S H.out sg _ _ HK.out).mono ?_
    rintro e w1 ⟨rfl, nv1, k1, a1⟩
    have K1 := Lib.hid k1
    have A1 := Lib.hid a1
    clear k1 a1
    go_wp2_with fail
    go_ret
    exact ⟨rfl, nv1, K1.out, A1.out⟩
  · rename_i S1 hk
    split at hr
    · rename_i hd
      simp only [Option.some.injEq, Prod.mk.injEq] at hr
      obtain ⟨rfl, hr⟩ := hr
      have HK := Lib.hid hk
      obtain ⟨d0, d1⟩ := hd
      clear hk
      by_cases hg : S1.d + 1 > 64
      · rw [if_pos hg] at hr
        have HR := Lib.hid hr
        have g : decide (S1.d + 1 > 64) = true := by simpa using hg
        clear hr
        go_enter Tryd.func40, Tryd.ntmps40
        go_wp2_with fail
        refine (ptake C b _ nv S H.out sg _ _ HK.out).mono ?_
        rintro e w1 ⟨rfl, nv1, k1, a1⟩
        have K1 := Lib.hid k1
        have A1 := Lib.hid a1
        have K2 := Lib.hid (k1.setD (S1.d + 1))
        have A2 := Lib.hid (a1.trans (Turn.set b nv1 w1 4 (.int .i64 (S1.d + 1))))
        obtain ⟨-, -, -, -, h4⟩ := k1.cells
        have f4 := k1.free 4
        clear k1 a1
        go_wp2_with fail
        refine (pfail C b _ nv1 _ K2.out 6).mono ?_
        rw [HR.out]
        rintro e w3 ⟨rfl, nv3, k3, a3⟩
        have K3 := Lib.hid k3
        have A3 := Lib.hid (A2.out.trans a3)
        clear k3 a3
        go_wp2_with fail
        go_ret
        exact ⟨rfl, nv3, K3.out, A3.out⟩
      · rw [if_neg hg] at hr
        subst hr
        have g : decide (S1.d + 1 > 64) = false := by simpa using hg
        go_enter Tryd.func40, Tryd.ntmps40
        go_wp2_with fail
        refine (ptake C b _ nv S H.out sg _ _ HK.out).mono ?_
        rintro e w1 ⟨rfl, nv1, k1, a1⟩
        have K2 := Lib.hid (k1.setD (S1.d + 1))
        have A2 := Lib.hid (a1.trans (Turn.set b nv1 w1 4 (.int .i64 (S1.d + 1))))
        obtain ⟨-, -, -, -, h4⟩ := k1.cells
        have f4 := k1.free 4
        clear k1 a1
        go_wp2_with fail
        go_ret
        exact ⟨rfl, nv1, K2.out, A2.out⟩
    · simp at hr
set_option maxRecDepth 20000 in
theorem pclose (h : Pr C w b nv S) (sg : ByteArray) (S' : PS) (hr : closeS C.T sg S = some S') : Calls Tryd.prog 74 #[.pointer (some ⟨b, 0, none⟩), .string sg] w (PPost C b nv w (.tuple #[]) S') := by
  have H := Lib.hid h
  clear h
  unfold closeS at hr
  split at hr
  · simp at hr
  · rename_i S1 hk
    unfold downS at hr
    split at hr
    · rename_i hd
      simp only [Option.some.injEq] at hr
      subst hr
      obtain ⟨d0, d1⟩ := hd
      have HK := Lib.hid hk
      clear hk
      go_enter Tryd.func74, Tryd.ntmps74
      go_wp2_with fail
      refine (pneed C b _ nv S H.out sg _ HK.out).mono ?_
      rintro e w1 ⟨rfl, nv1, k1, a1⟩
      have K2 := Lib.hid (k1.setD (S1.d - 1))
      have A2 := Lib.hid (a1.trans (Turn.set b nv1 w1 4 (.int .i64 (S1.d - 1))))
      obtain ⟨-, -, -, -, h4⟩ := k1.cells
      have f4 := k1.free 4
      clear k1 a1
      go_wp2_with fail
      go_end0
      exact ⟨rfl, nv1, K2.out, A2.out⟩
    · simp at hr
end
end Go.Proofs.YtkbbhgipajhbnaaDoor
