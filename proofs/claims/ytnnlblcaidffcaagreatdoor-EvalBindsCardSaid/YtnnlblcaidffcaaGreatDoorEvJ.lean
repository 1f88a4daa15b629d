/- Package eval: Expr of a tree in which nothing is chosen. -/
import Derived.Test.YtnnlblcaidffcaaGreatDoorEvI
namespace Go.Proofs.YtnnlblcaidffcaaGreatDoor
open Go.RowKit
set_option linter.unusedVariables false
set_option linter.unusedSimpArgs false
theorem above_cells {w : World} {B ga n : Nat} {acc : List Int} (h : w.ownsRow B 3 1 (.slice (some ⟨ga, 0, none⟩) n n) n (kidCells acc)) (hl : acc.length = n) (i : Nat) (x : Int) (hx : acc[i]? = some x) : w.cell? ⟨ga, i, none⟩ = some (.int .i64 x) := by
  have hi : i < n := by rw [← hl]; exact (List.getElem?_eq_some_iff.1 hx).1
  rw [World.ownsRow.cellAt h i (by omega), kidCells, List.getElem?_map, hx]
  rfl
theorem above_apart {w : World} {B ga b g n : Nat} {nv av vv : Value} {xs : List Value} (h : w.ownsRow B 3 1 (.slice (some ⟨ga, 0, none⟩) n n) n xs) (hb : AskB w b g nv av vv) : ga ≠ b := by
  rintro rfl
  rcases h.2 with ⟨e, -⟩ | ⟨g', cap', cur, e, -, hg, -⟩
  · cases e
  · simp only [Value.slice.injEq, Option.some.injEq, Addr.mk.injEq, and_true] at e
    obtain ⟨rfl, -⟩ := e
    have hb : w.heap[ga]? = some (.cells #[.map (some g), nv, av, vv] 113 (0, 0)) := hb
    rw [hg] at hb
    simp at hb
/-- What is asked for ahead of the walk through a tree: where kids stand, that nothing is chosen, what each node is made of. -/
structure Walk (L : ByteArray → Option VL) (ns : List NodeL) (M : NodeL → List VL → Option (VL × Int)) (r : VL × Int) : Prop where
  kids : KidsOK ns
  above : PlainAbove ns (aboveTo ns ns.length)
  few : ns.length ≤ 100000
  some_ : ns ≠ []
  plain : ∀ n ∈ ns, choosesB n.kind = false
  made : ∀ n ∈ ns, ∀ vs r, M n vs = some r → MadeOK L n vs r ∧ I64 r.1.num ∧ r.1.kids = []
  ans : evR M ns [] = some r
  leaf : r.1.kind ≠ 4
section
variable (w : World)
set_option maxHeartbeats 2000000 in
set_option maxRecDepth 20000 in
theorem pvalue (g nn : Nat) (nv : Value) (L : ByteArray → Option VL) (ns : List NodeL) (M : NodeL → List VL → Option (VL × Int)) (r : VL × Int) (hs : ScopeAt w 0 g nn L) (hn : NodesRd w nv ns) (hw : Walk L ns M r) :
    Calls Tryz.prog 29 #[.map (some g), nv] w (Told r w) := by
  have HW := Lib.hid hw
  have HS := Lib.hid (hs.below (below_al (Below.refl _ _) (.cells #[.int .i64 0, .int .i64 0, .string ⟨#[]⟩, .slice none 0 0] 48)))
  have HN := Lib.hid (hn.below (below_al (Below.refl _ _) (.cells #[.int .i64 0, .int .i64 0, .string ⟨#[]⟩, .slice none 0 0] 48)))
  have NB := Lib.hid (NBlk.new w 0 0 ⟨#[]⟩)
  have B0 := Lib.hid (below_al (Below.refl w.heap.size w) (.cells #[.int .i64 0, .int .i64 0, .string ⟨#[]⟩, .slice none 0 0] 48))
  have gk : (r.1.kind == 4) = false := by simpa using hw.leaf
  clear hs hn hw
  go_enter Tryz.func29, Tryz.ntmps29
  go_wp2_with fail
  generalize w.alloc (.cells #[.int .i64 0, .int .i64 0, .string ⟨#[]⟩, .slice none 0 0] 48) = w1 at *
  refine (pnewAsker w1 g nv ns HN.out HW.out.kids HW.out.few).mono ?_
  rintro e w2 ⟨b, ga, rfl, hb, h1, h2, h3⟩
  have AN := Lib.hid (panswer w1 w2 b g nn ga nv L ns _ M r h3 hb h1 HS.out HN.out (above_cells h2 (aboveTo_len ns _)) (above_apart h2 h1) (World.ownsRow.lt h2 ga rfl).2 HW.out.above HW.out.few HW.out.some_ HW.out.plain HW.out.made HW.out.ans)
  have B2 := Lib.hid h3
  have GE := Lib.hid hb
  clear h1 h2 h3 hb
  go_wp2_with fail
  refine AN.out.mono ?_
  rintro e w3 ⟨lv, rfl, ⟨hk, lo, lc, rfl⟩, hg⟩
  have B3 := Lib.hid (Below.grown B2.out hg B2.out.size (fun k hk => by simp at hk; have := GE.out; omega))
  obtain ⟨⟨z0, z1, z2, z3, z4⟩, f0, f1, f2, f3⟩ := (NB.out.below B3.out).full
  have BB := Lib.hid (B0.out.trans (B3.out.mono B0.out.size))
  clear hg AN
  unfold VL.val
  go_wp2_with fail
  refine bodyPost_ret (v := .tuple #[.agg #[.int .i64 r.1.kind, .int .i64 r.1.num, .string r.1.text, .slice none 0 0], .int .i64 r.2]) ?_ rfl ⟨rfl, below_al (below_set4 BB.out (Nat.le_refl _) _ _ _ _) _⟩
  simp [results, Tryz.results29, go_sem, z0, z1, z2, z3, z4]
theorem pexpr_no (nv bv : Value) (ns : List NodeL) (hn : NodesRd w nv ns) (he : ∀ n ∈ ns, Few n ∧ n.text.size ≤ 100000 ∧ n.kids.length ≤ 100000) (hl : ns.length ≤ 100000) (hv : ErrVar w) (ht : treeP ns = false) (hb : ∃ ao n cap, bv = .slice ao n cap) :
    Calls Tryz.prog 16 #[nv, bv] w (Told (vz, 1) w) := by
  have B0 := Lib.hid (below_al (Below.refl w.heap.size w) (.cells #[.int .i64 0, .int .i64 0, .string ⟨#[]⟩, .slice none 0 0] 48))
  have NB := Lib.hid (NBlk.new w 0 0 ⟨#[]⟩)
  have HT := Lib.hid (ptreeT _ nv ns (hn.below B0.out) he hl (hv.below B0.out hv.lt))
  obtain ⟨ao, cap, rfl, -⟩ := hn.at
  obtain ⟨bo, bn, bc, rfl⟩ := hb
  rw [ht] at HT
  clear hn he hv ht
  go_enter Tryz.func16, Tryz.ntmps16
  go_wp2_with fail
  refine HT.out.mono ?_
  rintro e w1 ⟨rfl, hb1⟩
  obtain ⟨⟨z0, z1, z2, z3, z4⟩, f0, f1, f2, f3⟩ := (NB.out.below hb1).full
  have B1 := Lib.hid (B0.out.trans (hb1.mono B0.out.size))
  clear hb1 HT
  go_wp2_with fail
  refine bodyPost_ret (v := .tuple #[.agg #[.int .i64 0, .int .i64 0, .string ⟨#[]⟩, .slice none 0 0], .int .i64 1]) ?_ rfl ⟨rfl, below_set4 B1.out (Nat.le_refl _) _ _ _ _⟩
  simp [results, Tryz.results16, go_sem, z0, z1, z2, z3, z4]
theorem pexpr_yes (nv bv : Value) (ns : List NodeL) (bs : List (ByteArray × VL)) (M : NodeL → List VL → Option (VL × Int)) (r : VL × Int) (hn : NodesRd w nv ns) (he : ∀ n ∈ ns, Few n ∧ n.text.size ≤ 100000 ∧ n.kids.length ≤ 100000) (hv : ErrVar w) (ht : treeP ns = true)
    (hb : BindsRd w 0 bv bs) (hbl : bs.length ≤ 100000) (hbi : ∀ b ∈ bs, I64 b.2.num ∧ b.1.size ≤ 281474976710656) (hw : Walk (lookL bs) ns M r) :
    Calls Tryz.prog 16 #[nv, bv] w (Told r w) := by
  have B0 := Lib.hid (below_al (Below.refl w.heap.size w) (.cells #[.int .i64 0, .int .i64 0, .string ⟨#[]⟩, .slice none 0 0] 48))
  have NB := Lib.hid (NBlk.new w 0 0 ⟨#[]⟩)
  have HT := Lib.hid (ptreeT _ nv ns (hn.below B0.out) he hw.few (hv.below B0.out hv.lt))
  have HN := Lib.hid hn
  have HB := Lib.hid hb
  have HBI := Lib.hid hbi
  have HW := Lib.hid hw
  obtain ⟨ao, cap, rfl, -⟩ := hn.at
  obtain ⟨bo, bc, rfl, -⟩ := hb
  rw [ht] at HT
  clear hn he hv ht hbi hw
  go_enter Tryz.func16, Tryz.ntmps16
  go_wp2_with fail
  refine HT.out.mono ?_
  rintro e w1 ⟨rfl, hb1⟩
  have B1 := Lib.hid (B0.out.trans (hb1.mono B0.out.size))
  have N1 := Lib.hid (NB.out.below hb1)
  clear hb1 HT
  go_wp2_with fail
  refine (pscope w1 0 _ bs (HB.out.below B1.out) hbl HBI.out).mono ?_
  rintro e w2 ⟨rfl, hb2, hs2⟩
  have B2 := Lib.hid (B1.out.trans (hb2.mono B1.out.size))
  have N2 := Lib.hid (N1.out.below hb2)
  have S2 := Lib.hid hs2
  clear hb2 hs2
  go_wp2_with fail
  refine (pvalue w2 _ _ _ (lookL bs) ns M r S2.out (HN.out.below B2.out) HW.out).mono ?_
  rintro e w3 ⟨rfl, hb3⟩
  obtain ⟨⟨z0, z1, z2, z3, z4⟩, f0, f1, f2, f3⟩ := (N2.out.below hb3).full
  have B3 := Lib.hid (B2.out.trans (hb3.mono B2.out.size))
  clear hb3
  go_wp2_with fail
  refine bodyPost_ret (v := .tuple #[.agg #[.int .i64 r.1.kind, .int .i64 r.1.num, .string r.1.text, .slice none 0 0], .int .i64 r.2]) ?_ rfl ⟨rfl, below_set4 B3.out (Nat.le_refl _) _ _ _ _⟩
  simp [results, Tryz.results16, go_sem, z0, z1, z2, z3, z4]
end
end Go.Proofs.YtnnlblcaidffcaaGreatDoor
