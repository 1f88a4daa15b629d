/- Names that are references. -/
import Derived.Test.YtjohcpipflpiaaaGreatDoorEvI
import Derived.Test.YtjohcpipflpiaaaGreatDoorNodN
namespace Go.Proofs.YtjohcpipflpiaaaGreatDoor
open Go.RowKit
set_option linter.unusedVariables false
set_option linter.unusedSimpArgs false
theorem above_cells {w : World} {B ga n : Nat} {acc : List Int} (h : w.ownsRow B 3 1 (.slice (some ⟨ga, 0, none⟩) n n) n (kidCells acc)) (hl : acc.length = n) (i : Nat) (x : Int) (hx : acc[i]? = some x) : w.cell? ⟨ga, i, none⟩ = some (.int .i64 x) := by
  have hi : i < n := by rw [← hl]; exact (List.getElem?_eq_some_iff.1 hx).1
  rw [World.ownsRow.cellAt h i (by omega), kidCells, List.getElem?_map, hx]
  rfl
theorem above_apart {w : World} {B ga b g n : Nat} {nv av vv : Value} {xs : List Value} (h : w.ownsRow B 3 1 (.slice (some ⟨ga, 0, none⟩) n n) n xs) (hb : AskB w b g nv av vv) : ga ≠ b := by
  rintro rfl
  rcases h.2 with ⟨e, -⟩ | ⟨g', cap', cur, e, -, hg, -⟩
  · cases e
  · simp only [Value.slice.injEq, Option.some.injEq, Addr.mk.injEq, and_true] at e
    obtain ⟨rfl, -⟩ := e
    have hb : w.heap[ga]? = some (.cells #[.map (some g), nv, av, vv] 113 (0, 0)) := hb
    rw [hg] at hb
    simp at hb
/-- What is asked for ahead of the walk through a tree: where kids stand, that nothing is chosen, what each node is made of. -/
structure Walk (X : World → Prop) (L : ByteArray → Option VL) (ns : List NodeL) (M : NodeL → List VL → Option (VL × Int)) (r : VL × Int) : Prop where
  kids : KidsOK ns
  above : PlainAbove ns (aboveTo ns ns.length)
  few : ns.length ≤ 100000
  some_ : ns ≠ []
  plain : ∀ n ∈ ns, choosesB n.kind = false
  made : ∀ n ∈ ns, ∀ vs r, M n vs = some r → MadeOK X L n vs r ∧ I64 r.1.num ∧ r.1.kids = []
  ans : evR M ns [] = some r
  leaf : r.1.kind ≠ 4
  keep : ∀ w w', X w → Below w.heap.size w w' → X w'
section
variable (w : World)
set_option maxHeartbeats 2000000 in
set_option maxRecDepth 20000 in
theorem pvalue (X : World → Prop) (hX0 : X w) (g nn : Nat) (nv : Value) (L : ByteArray → Option VL) (ns : List NodeL) (M : NodeL → List VL → Option (VL × Int)) (r : VL × Int) (hs : ScopeAt w 0 g nn L) (hn : NodesRd w nv ns) (hw : Walk X L ns M r) :
    Calls Tryz.prog 29 #[.map (some g), nv] w (Told r w) := by
  have HW := Lib.hid hw
  have HS := Lib.hid (hs.below (below_al (Below.refl _ _) (.cells #[.int .i64 0, .int .i64 0, .string ⟨#[]⟩, .slice none 0 0] 48)))
  have HN := Lib.hid (hn.below (below_al (Below.refl _ _) (.cells #[.int .i64 0, .int .i64 0, .string ⟨#[]⟩, .slice none 0 0] 48)))
  have NB := Lib.hid (NBlk.new w 0 0 ⟨#[]⟩)
  have B0 := Lib.hid (below_al (Below.refl w.heap.size w) (.cells #[.int .i64 0, .int .i64 0, .string ⟨#[]⟩, .slice none 0 0] 48))
  have HX := Lib.hid (hw.keep w _ hX0 B0.out)
  have gk : (r.1.kind == 4) = false := by simpa using hw.leaf
  clear hs hn hw hX0
  go_enter Tryz.func29, Tryz.ntmps29
  go_wp2_with fail
  generalize w.alloc (.cells #[.int .i64 0, .int .i64 0, .string ⟨#[]⟩, .slice none 0 0] 48) = w1 at *
  refine (pnewAsker w1 g nv ns HN.out HW.out.kids HW.out.few).mono ?_
  rintro e w2 ⟨b, ga, rfl, hb, h1, h2, h3⟩
  have AN := Lib.hid (panswer w1 w2 X HW.out.keep HX.out b g nn ga nv L ns _ M r h3 hb h1 HS.out HN.out (above_cells h2 (aboveTo_len ns _)) (above_apart h2 h1) (World.ownsRow.lt h2 ga rfl).2 HW.out.above HW.out.few HW.out.some_ HW.out.plain HW.out.made HW.out.ans)
  have B2 := Lib.hid h3
  have GE := Lib.hid hb
  clear h1 h2 h3 hb
  go_wp2_with fail
  refine AN.out.mono ?_
  rintro e w3 ⟨lv, rfl, ⟨hk, lo, lc, rfl⟩, hg⟩
  have B3 := Lib.hid (Below.grown B2.out hg B2.out.size (fun k hk => by simp at hk; have := GE.out; omega))
  obtain ⟨⟨z0, z1, z2, z3, z4⟩, f0, f1, f2, f3⟩ := (NB.out.below B3.out).full
  have BB := Lib.hid (B0.out.trans (B3.out.mono B0.out.size))
  clear hg AN
  unfold VL.val
  go_wp2_with fail
  refine bodyPost_ret (v := .tuple #[.agg #[.int .i64 r.1.kind, .int .i64 r.1.num, .string r.1.text, .slice none 0 0], .int .i64 r.2]) ?_ rfl ⟨rfl, below_al (below_set4 BB.out (Nat.le_refl _) _ _ _ _) _⟩
  simp [results, Tryz.results29, go_sem, z0, z1, z2, z3, z4]
theorem pexpr_no (nv bv : Value) (ns : List NodeL) (hn : NodesRd w nv ns) (he : ∀ n ∈ ns, Few n ∧ n.text.size ≤ 100000 ∧ n.kids.length ≤ 100000) (hl : ns.length ≤ 100000) (hv : ErrVar w) (ht : treeP ns = false) (hb : ∃ ao n cap, bv = .slice ao n cap) :
    Calls Tryz.prog 16 #[nv, bv] w (Told (vz, 1) w) := by
  have B0 := Lib.hid (below_al (Below.refl w.heap.size w) (.cells #[.int .i64 0, .int .i64 0, .string ⟨#[]⟩, .slice none 0 0] 48))
  have NB := Lib.hid (NBlk.new w 0 0 ⟨#[]⟩)
  have HT := Lib.hid (ptreeT _ nv ns (hn.below B0.out) he hl (hv.below B0.out hv.lt))
  obtain ⟨ao, cap, rfl, -⟩ := hn.at
  obtain ⟨bo, bn, bc, rfl⟩ := hb
  rw [ht] at HT
  clear hn he hv ht
  go_enter Tryz.func16, Tryz.ntmps16
  go_wp2_with fail
  refine HT.out.mono ?_
  rintro e w1 ⟨rfl, hb1⟩
  obtain ⟨⟨z0, z1, z2, z3, z4⟩, f0, f1, f2, f3⟩ := (NB.out.below hb1).full
  have B1 := Lib.hid (B0.out.trans (hb1.mono B0.out.size))
  clear hb1 HT
  go_wp2_with fail
  refine bodyPost_ret (v := .tuple #[.agg #[.int .i64 0, .int .i64 0, .string ⟨#[]⟩, .slice none 0 0], .int .i64 1]) ?_ rfl ⟨rfl, below_set4 B1.out (Nat.le_refl _) _ _ _ _⟩
  simp [results, Tryz.results16, go_sem, z0, z1, z2, z3, z4]
theorem pexpr_yes (X : World → Prop) (hX0 : X w) (nv bv : Value) (ns : List NodeL) (bs : List (ByteArray × VL)) (M : NodeL → List VL → Option (VL × Int)) (r : VL × Int) (hn : NodesRd w nv ns) (he : ∀ n ∈ ns, Few n ∧ n.text.size ≤ 100000 ∧ n.kids.length ≤ 100000) (hv : ErrVar w) (ht : treeP ns = true)
    (hb : BindsRd w 0 bv bs) (hbl : bs.length ≤ 100000) (hbi : ∀ b ∈ bs, I64 b.2.num ∧ b.1.size ≤ 281474976710656) (hw : Walk X (lookL bs) ns M r) :
    Calls Tryz.prog 16 #[nv, bv] w (Told r w) := by
  have B0 := Lib.hid (below_al (Below.refl w.heap.size w) (.cells #[.int .i64 0, .int .i64 0, .string ⟨#[]⟩, .slice none 0 0] 48))
  have NB := Lib.hid (NBlk.new w 0 0 ⟨#[]⟩)
  have HT := Lib.hid (ptreeT _ nv ns (hn.below B0.out) he hw.few (hv.below B0.out hv.lt))
  have HN := Lib.hid hn
  have HB := Lib.hid hb
  have HBI := Lib.hid hbi
  have HW := Lib.hid hw
  have HX := Lib.hid hX0
  obtain ⟨ao, cap, rfl, -⟩ := hn.at
  obtain ⟨bo, bc, rfl, -⟩ := hb
  rw [ht] at HT
  clear hn he hv ht hbi hw hX0
  go_enter Tryz.func16, Tryz.ntmps16
  go_wp2_with fail
  refine HT.out.mono ?_
  rintro e w1 ⟨rfl, hb1⟩
  have B1 := Lib.hid (B0.out.trans (hb1.mono B0.out.size))
  have N1 := Lib.hid (NB.out.below hb1)
  clear hb1 HT
  go_wp2_with fail
  refine (pscope w1 0 _ bs (HB.out.below B1.out) hbl HBI.out).mono ?_
  rintro e w2 ⟨rfl, hb2, hs2⟩
  have B2 := Lib.hid (B1.out.trans (hb2.mono B1.out.size))
  have N2 := Lib.hid (N1.out.below hb2)
  have S2 := Lib.hid hs2
  clear hb2 hs2
  go_wp2_with fail
  refine (pvalue w2 X (HW.out.keep _ _ HX.out B2.out) _ _ _ (lookL bs) ns M r S2.out (HN.out.below B2.out) HW.out).mono ?_
  rintro e w3 ⟨rfl, hb3⟩
  obtain ⟨⟨z0, z1, z2, z3, z4⟩, f0, f1, f2, f3⟩ := (N2.out.below hb3).full
  have B3 := Lib.hid (B2.out.trans (hb3.mono B2.out.size))
  clear hb3
  go_wp2_with fail
  refine bodyPost_ret (v := .tuple #[.agg #[.int .i64 r.1.kind, .int .i64 r.1.num, .string r.1.text, .slice none 0 0], .int .i64 r.2]) ?_ rfl ⟨rfl, below_set4 B3.out (Nat.le_refl _) _ _ _ _⟩
  simp [results, Tryz.results16, go_sem, z0, z1, z2, z3, z4]
end
end Go.Proofs.YtjohcpipflpiaaaGreatDoor
namespace Go.Proofs.YtjohcpipflpiaaaGreatDoor
open Go.RowKit
set_option linter.unusedVariables false
set_option linter.unusedSimpArgs false
def madeS (L : ByteArray → Option VL) (n : NodeL) (vs : List VL) : Option (VL × Int) :=
  if n.kind = 1 then some (.mk 1 n.num ⟨#[]⟩ [], 0)
  else if n.kind = 3 then some (.mk 3 n.num ⟨#[]⟩ [], 0)
  else if n.kind = 4 then some (refR L n.text)
  else if n.kind = 19 then (match vs with | [a, b] => some (twoR 0 19 a b) | _ => none)
  else none
theorem twoR_add (a b : VL) : I64 (twoR 0 19 a b).1.num := by
  unfold twoR
  rw [if_neg (by omega), if_neg (by omega), if_neg (by omega), if_pos (by omega)]
  split
  · unfold numR
    have e : reckonR 19 a.num b.num = fitR (a.num + b.num) := rfl
    rw [e]
    unfold fitR
    by_cases h : -9223372036854775808 ≤ a.num + b.num ∧ a.num + b.num ≤ 9223372036854775807
    · rw [if_pos h]; exact h
    · rw [if_neg h]
      show I64 0
      unfold I64; omega
  · show I64 0
    unfold I64; omega
/-- What names stand for has no list. -/
def LeafL (L : ByteArray → Option VL) : Prop := ∀ x v, L x = some v → I64 v.num ∧ v.kids = []
theorem madeS_ok (X : World → Prop) (L : ByteArray → Option VL) (hL : LeafL L) (n : NodeL) (hn : I64 n.num) (ht : n.text.size ≤ maxLen) (vs : List VL) (r : VL × Int) (h : madeS L n vs = some r) : MadeOK X L n vs r ∧ I64 r.1.num ∧ r.1.kids = [] := by
  unfold madeS at h
  by_cases k1 : n.kind = 1
  · rw [if_pos k1] at h
    obtain rfl := Option.some.inj h
    exact ⟨made_num X L n vs k1, hn, rfl⟩
  rw [if_neg k1] at h
  by_cases k3 : n.kind = 3
  · rw [if_pos k3] at h
    obtain rfl := Option.some.inj h
    exact ⟨made_bool X L n vs k3, hn, rfl⟩
  rw [if_neg k3] at h
  by_cases k4 : n.kind = 4
  · rw [if_pos k4] at h
    obtain rfl := Option.some.inj h
    refine ⟨made_ref X L n vs k4 ht, ?_⟩
    unfold refR
    cases hx : L n.text with
    | none => exact ⟨by show I64 0; unfold I64; omega, rfl⟩
    | some v => exact hL _ _ hx
  rw [if_neg k4] at h
  by_cases k19 : n.kind = 19
  · rw [if_pos k19] at h
    match vs, h with
    | [a, b], h =>
      obtain rfl := Option.some.inj h
      have := made_two X L n a b (by omega)
      rw [k19] at this
      exact ⟨this, twoR_add a b, twoR_kids 0 19 a b⟩
  · rw [if_neg k19] at h; cases h
/-- Nodes that lie in one block. -/
theorem nodes_of_block {w : World} {g cap : Nat} {ns : List NodeL} {xs : Array Value} {t : TypeId} (h : w.heap[g]? = some (.cells xs t (0, 0))) (hr : NodesRow w ns xs.toList) : NodesRd w (.slice (some ⟨g, 0, none⟩) ns.length cap) ns :=
  ⟨xs.toList, ⟨some ⟨g, 0, none⟩, cap, rfl, fun j u hj => ⟨g, 0, rfl, by rw [Nat.zero_add, cell_of_row w g j xs t (0, 0) h]; simpa using hj⟩⟩, hr⟩
theorem places_of_block {w : World} {g cap : Nat} {ks : List Int} {t : TypeId} (h : w.heap[g]? = some (.cells (kidCells ks).toArray t (0, 0))) : PlacesRd w (.slice (some ⟨g, 0, none⟩) ks.length cap) ks :=
  ⟨some ⟨g, 0, none⟩, cap, rfl, fun j u hj => ⟨g, 0, rfl, by rw [Nat.zero_add, cell_of_row w g j _ t (0, 0) h]; simpa using hj⟩⟩
theorem places_nil (w : World) (ao : Option Addr) (cap : Nat) : PlacesRd w (.slice ao 0 cap) [] := ⟨ao, cap, rfl, fun j u hj => by simp [kidCells] at hj⟩
theorem parts_nil (w : World) (ao : Option Addr) (cap : Nat) : PartsRd w (.slice ao 0 cap) [] := ⟨ao, cap, rfl, fun j u hj => by simp [partCells] at hj⟩
theorem binds_nil (w : World) (D : Nat) (ao : Option Addr) (cap : Nat) : BindsRd w D (.slice ao 0 cap) [] := ⟨ao, cap, rfl, fun i b hi => by simp at hi⟩
def sum3 : List NodeL := [⟨1, 1, ⟨#[]⟩, [], []⟩, ⟨1, 2, ⟨#[]⟩, [], []⟩, ⟨19, 0, ⟨#[]⟩, [], [0, 1]⟩]
theorem sum3_tree : treeP sum3 = true := by decide
theorem sum3_walk : Walk (fun _ => True) (lookL []) sum3 (madeS (lookL [])) (vnum 3, 0) where
  kids := by
    intro n hn
    simp [sum3] at hn
    rcases hn with rfl | rfl | rfl <;> simp [sum3]
  above := by
    refine ⟨rfl, fun j hj => ?_⟩
    have hj : j + 1 < 3 := hj
    refine ⟨2, ⟨19, 0, ⟨#[]⟩, [], [0, 1]⟩, 0, [1], ?_, rfl, rfl, by simp, rfl⟩
    match j, hj with
    | 0, _ => rfl
    | 1, _ => rfl
  few := by simp [sum3]
  some_ := by simp [sum3]
  plain := by
    intro n hn
    simp [sum3] at hn
    rcases hn with rfl | rfl | rfl <;> rfl
  made := by
    intro n hn vs r hr
    refine madeS_ok _ _ (fun x v h => by simp [lookL] at h) n ?_ ?_ vs r hr
    · simp [sum3] at hn
      rcases hn with rfl | rfl | rfl <;> (unfold I64; simp)
    · simp [sum3] at hn
      rcases hn with rfl | rfl | rfl <;> (show (0 : Nat) ≤ maxLen; exact Nat.zero_le _)
  ans := by rfl
  leaf := by simp [vnum, VL.kind]
  keep := fun _ _ _ _ => trivial
section
variable (w : World)
theorem sum3_rd (V : World) (G : Nat) (hk : V.heap[G]? = some (.cells #[.int .i64 0, .int .i64 1] 3 (0, 0))) (hn : V.heap[G + 1]? = some (.cells #[.int .i64 1, .int .i64 1, .string ⟨#[]⟩, .slice none 0 0, .slice none 0 0, .int .i64 1, .int .i64 2, .string ⟨#[]⟩, .slice none 0 0, .slice none 0 0, .int .i64 19, .int .i64 0, .string ⟨#[]⟩, .slice none 0 0, .slice (some ⟨G, 0, none⟩) 2 2] 41 (0, 0))) : NodesRd V (.slice (some ⟨G + 1, 0, none⟩) 3 3) sum3 :=
  nodes_of_block (ns := sum3) hn ⟨.slice none 0 0, .slice none 0 0, _, rfl, parts_nil _ _ _, places_nil _ _ _, .slice none 0 0, .slice none 0 0, _, rfl, parts_nil _ _ _, places_nil _ _ _, .slice none 0 0, .slice (some ⟨G, 0, none⟩) 2 2, [], rfl, parts_nil _ _ _, places_of_block (ks := [0, 1]) hk, rfl⟩
theorem sum3_few : ∀ n ∈ sum3, Few n ∧ n.text.size ≤ 100000 ∧ n.kids.length ≤ 100000 := by
  intro n hn
  simp [sum3] at hn
  rcases hn with rfl | rfl | rfl <;> exact ⟨⟨Nat.zero_le _, fun p hp => by cases hp⟩, Nat.zero_le _, by simp⟩
set_option maxRecDepth 20000 in
theorem law_awake7 (hv : ErrVar w) : Calls Tryz.prog 14 #[] w (Made (.bool true) w) := by
  have V := Lib.hid hv
  have BB := Lib.hid (show Below w.heap.size w ((w.alloc (.cells #[.int .i64 0, .int .i64 1] 3)).alloc (.cells #[.int .i64 1, .int .i64 1, .string ⟨#[]⟩, .slice none 0 0, .slice none 0 0, .int .i64 1, .int .i64 2, .string ⟨#[]⟩, .slice none 0 0, .slice none 0 0, .int .i64 19, .int .i64 0, .string ⟨#[]⟩, .slice none 0 0, .slice (some ⟨w.heap.size, 0, none⟩) 2 2] 41)) from below_al (below_al (Below.refl _ _) _) _)
  have RD := Lib.hid (sum3_rd ((w.alloc (.cells #[.int .i64 0, .int .i64 1] 3)).alloc (.cells #[.int .i64 1, .int .i64 1, .string ⟨#[]⟩, .slice none 0 0, .slice none 0 0, .int .i64 1, .int .i64 2, .string ⟨#[]⟩, .slice none 0 0, .slice none 0 0, .int .i64 19, .int .i64 0, .string ⟨#[]⟩, .slice none 0 0, .slice (some ⟨w.heap.size, 0, none⟩) 2 2] 41)) w.heap.size
    ((Below.block (below_al (Below.refl _ _) _) w.heap.size (by simp)).trans (heap_alloc_new w _)) (heap_at (by simp)))
  clear hv
  go_enter Tryz.func14, Tryz.ntmps14
  go_wp2_with fail
  refine (pexpr_yes _ _ trivial _ _ sum3 [] _ _ RD.out sum3_few (V.out.below BB.out V.out.lt) sum3_tree (binds_nil _ _ _ _) (Nat.zero_le _) (fun b hb => by cases hb) sum3_walk).mono ?_
  rintro e w1 ⟨rfl, hb1⟩
  have B1 := Lib.hid (BB.out.trans (hb1.mono BB.out.size))
  clear hb1
  go_wp2_with fail
  refine (lnum _ _).mono ?_
  rintro e w2 ⟨rfl, rfl⟩
  go_wp2_with fail
  go_ret
  exact ⟨rfl, below_al B1.out _⟩
end
section
variable (w : World)
set_option maxRecDepth 20000 in
theorem pbind (s : ByteArray) (n : Int) : Calls Tryz.prog 15 #[.string s, .int .i64 n] w (Made (.agg #[.string s, .int .i64 1, .int .i64 n, .string ⟨#[]⟩, .slice none 0 0]) w) := by
  go_enter Tryz.func15, Tryz.ntmps15
  go_wp2_with fail
  exact bodyPost_ret (v := .agg #[.string s, .int .i64 1, .int .i64 n, .string ⟨#[]⟩, .slice none 0 0]) (by simp [results, Tryz.results15, go_sem]) rfl ⟨rfl, below_al (Below.refl _ _) _⟩
end
end Go.Proofs.YtjohcpipflpiaaaGreatDoor
namespace Go.Proofs.YtjohcpipflpiaaaGreatDoor
open Go.RowKit
set_option linter.unusedVariables false
set_option linter.unusedSimpArgs false
/-! ### a name with a number -/
theorem take_dot {p : UInt8 → Bool} (hp : ∀ c, p c = true → c ≠ 46) : ∀ (l : List UInt8), l[(l.takeWhile p).length]? = some 46 → (l.takeWhile fun c => c != 46).length = (l.takeWhile p).length := by
  intro l
  induction l with
  | nil => intro h; simp at h
  | cons c l ih =>
    intro h
    cases hc : p c with
    | true =>
      have e1 : (c :: l).takeWhile p = c :: l.takeWhile p := by rw [List.takeWhile_cons, hc]; rfl
      have h46 : (c != 46) = true := by simpa using hp c hc
      have e2 : ((c :: l).takeWhile fun c => c != 46) = c :: l.takeWhile fun c => c != 46 := by rw [List.takeWhile_cons, h46]; rfl
      rw [e1] at h ⊢
      rw [e2, List.length_cons, List.length_cons, ih (by simpa using h)]
    | false =>
      have e1 : (c :: l).takeWhile p = [] := by rw [List.takeWhile_cons, hc]; rfl
      rw [e1] at h ⊢
      have hc46 : c = 46 := by simpa using h
      subst hc46
      rfl
theorem dot_cut {s : ByteArray} (h : rdotB s = true) : cutA s = s.extract 0 (nameTo s 0) ∧ refP s = true := by
  unfold rdotB at h
  simp only [Bool.and_eq_true, decide_eq_true_eq, beq_iff_eq] at h
  obtain ⟨⟨⟨⟨h1, h2⟩, h3⟩, h4⟩, h5⟩ := h
  have hst : startsB (pk s 0) = true := by
    unfold nameTo at h1
    split at h1
    · assumption
    · omega
  have hn : nameTo s 0 = (s.data.toList.takeWhile fun c => inNameB c.toNat).length := by
    unfold nameTo
    rw [if_pos hst]
    unfold runTo runLen
    simp
  have hd : dotN s = nameTo s 0 := by
    unfold dotN
    rw [hn]
    refine take_dot (fun c hc e => ?_) _ ?_
    · subst e; revert hc; decide
    · rw [← hn]
      have hl : nameTo s 0 < s.data.toList.length := h2
      rw [List.getElem?_eq_getElem hl]
      rw [pk_in h2] at h3
      have e : s.data.toList[nameTo s 0] = s[nameTo s 0] := rfl
      have h46 : s[nameTo s 0] = 46 := UInt8.toNat_inj.1 (show (s[nameTo s 0]).toNat = (46 : UInt8).toNat from by have : (46 : UInt8).toNat = 46 := rfl; omega)
      exact congrArg some (e.trans h46)
  have hA : cutA s = s.extract 0 (nameTo s 0) := by unfold cutA; rw [hd]
  refine ⟨hA, ?_⟩
  unfold refP
  rw [nameP_eq, nameP_eq, hA, h4]
  unfold cutZ
  rw [hd, h5]
  rfl
end Go.Proofs.YtjohcpipflpiaaaGreatDoor
