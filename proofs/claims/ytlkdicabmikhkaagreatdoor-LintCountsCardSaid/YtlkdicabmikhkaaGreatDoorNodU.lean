/- Package parse: Tree, of any nodes. -/
import Derived.Test.YtlkdicabmikhkaaGreatDoorNodW
import Derived.StillTailTactics
import Derived.BigQuiet
namespace Go.Proofs.YtlkdicabmikhkaaGreatDoor
open Go.RowKit
set_option linter.unusedVariables false
set_option linter.unusedSimpArgs false

theorem elemInts : Tryz.prog.elem 33 = 3 := by kernel_rfl
theorem sizeInt (w : World) : (sizeOf (Tryz.prog.elem 33)).run Tryz.prog w = .ok 1 w := by kernel_rfl
theorem sl_from (a : Option Addr) (len cap : Nat) (r : Nat) (h : r ≤ len) (W : World) : (Instr.slice 33 (.slice a len cap) (some (.int .i64 (r : Int))) none none).run Tryz.prog W = .ok (sliced a r len cap 1) W := by
  rw [run_slice_l (P := Tryz.prog) W 33 a len cap (by rw [elemInts]; exact Tryz.underlying33) .i64 r (by omega) (by omega), sizeInt]
  rfl
theorem sl_to (a : Option Addr) (len cap : Nat) (r : Nat) (h : r ≤ cap) (W : World) : (Instr.slice 33 (.slice a len cap) none (some (.int .i64 (r : Int))) none).run Tryz.prog W = .ok (sliced a 0 r cap 1) W := by
  rw [run_slice_h (P := Tryz.prog) W 33 a len cap (by rw [elemInts]; exact Tryz.underlying33) .i64 r (by omega) (by omega), sizeInt]
  rfl
/-- The end of a row of one's own, as it is read. -/
theorem own_drop {w : World} {B : Nat} {ao : Option Addr} {m cap : Nat} {xs : List Int} (h : w.ownsRow B 3 1 (.slice ao m cap) m (kidCells xs)) (hm : xs.length = m) (r : Nat) (hr : r ≤ m) :
    ∃ ao' cap', sliced ao r m cap 1 = .slice ao' (m - r) cap' ∧ PlacesRd w (.slice ao' (m - r) cap') (xs.drop r) := by
  have hlen : (xs.drop r).length = m - r := by simp [hm]
  obtain ⟨ao0, cap0, e0, hc⟩ := Rds.of_own h
  simp at e0
  obtain ⟨rfl, rfl⟩ := e0
  refine ⟨_, _, rfl, _, _, by rw [hlen], fun j u hj => ?_⟩
  have hj2 : (kidCells xs)[r + j]? = some u := by
    rw [kidCells, List.map_drop, List.getElem?_drop] at hj
    exact hj
  obtain ⟨g, o, rfl, hcell⟩ := hc (r + j) u hj2
  have hlt : r + j < m := by
    have := (List.getElem?_eq_some_iff.1 hj2).1
    simpa [kidCells, hm] using this
  have hcap : m ≤ cap := by
    rcases h.2 with ⟨e, -⟩ | ⟨g', cap', cur, e, -, -, hmc, -⟩
    · cases e
    · simp at e; omega
  refine ⟨g, o + r, ?_, by rw [Nat.add_assoc]; exact hcell⟩
  rw [if_neg (by omega)]
  simp [Addr.add]
theorem own_take {w : World} {B : Nat} {ao : Option Addr} {m cap : Nat} {xs : List Int} (h : w.ownsRow B 3 1 (.slice ao m cap) m (kidCells xs)) (hm : xs.length = m) (r : Nat) (hr : r ≤ m) :
    r ≤ cap ∧ sliced ao 0 r cap 1 = .slice ao r cap ∧ w.ownsRow B 3 1 (.slice ao r cap) (xs.take r).length (kidCells (xs.take r)) := by
  have hl : (xs.take r).length = r := by simp; omega
  rw [hl]
  rcases h.2 with ⟨e, h0⟩ | ⟨g, cap', cur, e, hB, hg, hmc, hcm, hsz, htk⟩
  · simp at e
    obtain ⟨rfl, -, rfl⟩ := e
    have : r = 0 := by omega
    subst this
    exact ⟨Nat.le_refl _, rfl, World.ownsRow_nil _ _ _ _⟩
  · simp at e
    obtain ⟨rfl, rfl⟩ := e
    refine ⟨by omega, ?_, by simp [kidCells]; omega, .inr ⟨g, cap, cur, rfl, hB, hg, by omega, hcm, hsz, ?_⟩⟩
    · unfold sliced
      have : ((⟨g, 0, none⟩ : Addr).add (0 * 1)) = ⟨g, 0, none⟩ := by simp [Addr.add]
      split <;> simp [this]
    · have h2 : cur.toList.take (r * 1) = (cur.toList.take (m * 1)).take (r * 1) := by rw [List.take_take]; congr 1; omega
      rw [h2, htk, kidCells, kidCells, List.map_take]
      simp
/-- Few parts, none of them long. -/
def Few (n : NodeL) : Prop := n.parts.length ≤ 100000 ∧ ∀ p ∈ n.parts, p.2.size ≤ 281474976710656
def treeGo : List NodeL → Int → List Int → Bool
  | [], _, roots => roots.length == 1
  | n :: ns, i, roots =>
    if n.kids.length ≤ roots.length then
      (if roots.drop (roots.length - n.kids.length) = n.kids then (if nodeP n then treeGo ns (i + 1) (roots.take (roots.length - n.kids.length) ++ [i]) else false) else false)
    else false
def treeP (ns : List NodeL) : Bool := treeGo ns 0 []
def TreeRel (w : World) (ns : List NodeL) (m : Nat) (rv iv : Value) (wr : World) : Prop :=
  ∃ (j : Nat) (roots : List Int), iv = .int .i64 j ∧ ns.length - j ≤ m ∧ j ≤ ns.length ∧ treeGo (ns.drop j) j roots = treeP ns ∧ Below w.heap.size w wr ∧ wr.ownsRow w.heap.size 3 1 rv roots.length (kidCells roots) ∧ roots.length ≤ j
theorem below_drewU {B : Nat} {a w : World} (h : Below B a w) : Below B a w.drew := ⟨h.os, h.tape, h.output, h.size, h.block⟩
section
variable (w : World)
set_option maxHeartbeats 4000000 in
set_option maxRecDepth 20000 in
theorem ptreeT (v : Value) (ns : List NodeL) (h : NodesRd w v ns) (he : ∀ n ∈ ns, Few n ∧ n.text.size ≤ 100000 ∧ n.kids.length ≤ 100000) (hl : ns.length ≤ 100000) (hv : ErrVar w) :
    Calls Tryz.prog 41 #[v] w (Made (.bool (treeP ns)) w) := by
  have H := Lib.hid h
  have HE := Lib.hid he
  have HL := Lib.hid hl
  have V := Lib.hid hv
  obtain ⟨ao, cap, rfl, -⟩ := h.at
  obtain ⟨i0, hi0, hz0, hz1, hz2⟩ := info_parts info_int
  clear h he hv
  go_enter Tryz.func41, Tryz.ntmps41
  go_wp2_with fail
  go_loopg [3, 9] ns.length (fun m rv iv wr => TreeRel w ns m rv iv wr)
  case atStart => exact ⟨0, [], rfl, Nat.le_refl _, Nat.zero_le _, rfl, Below.refl _ _, World.ownsRow_nil _ _ _ _, Nat.le_refl _⟩
  case round =>
    obtain ⟨j, roots, rfl, hm, hj, ht, hb, ho, hrl⟩ := hrel
    obtain ⟨rao, rn, rcap, rfl⟩ := own_slice ho
    obtain rfl : rn = roots.length := by
      rcases ho.2 with ⟨e, h0⟩ | ⟨g, c2, cur, e, -⟩
      · simp at e; omega
      · simp at e; omega
    have HM := Lib.hid hm
    have B := Lib.hid hb
    have O := Lib.hid ho
    have HT := Lib.hid ht
    clear hm hb ho ht
    by_cases hjl : j < ns.length
    · obtain ⟨n, hn⟩ : ∃ n, ns[j]? = some n := ⟨_, List.getElem?_eq_getElem hjl⟩
      have hmem : n ∈ ns := List.mem_of_getElem? hn
      obtain ⟨hEasy, hTs, hKs⟩ := HE.out n hmem
      have EA := Lib.hid hEasy
      have TS := Lib.hid (show n.text.size ≤ maxLen by unfold maxLen; omega)
      have hd : ns.drop j = n :: ns.drop (j + 1) := by
        have := List.getElem?_eq_some_iff.1 hn
        obtain ⟨h1, h2⟩ := this
        rw [← h2]
        exact List.drop_eq_getElem_cons h1
      have HD := Lib.hid hd
      obtain ⟨ao2, cap2, e2, hat⟩ := (H.out.below B.out).at
      simp at e2
      obtain ⟨rfl, rfl⟩ := e2
      obtain ⟨g, o, pv, kv, rfl, hpv, hkv, c0, c1, c2, c3, c4⟩ := hat j n hn
      obtain ⟨pao, pcap, rfl⟩ : ∃ pao pcap, pv = .slice pao n.parts.length pcap := by obtain ⟨a, b, e, -⟩ := hpv; exact ⟨a, b, e⟩
      have PVR := Lib.hid hpv
      obtain ⟨kao, kcap, rfl⟩ := hkv.len
      have KV := Lib.hid hkv
      clear hat hn hmem hEasy hTs hd hpv hkv
      have B1 := Lib.hid (show Below wr.heap.size wr (wr.alloc (.cells #[.int .i64 n.kind, .int .i64 n.num, .string n.text, .slice pao n.parts.length pcap, .slice kao n.kids.length kcap] 35)) from (Below.refl _ _).alloc (Nat.le_refl _) _)
      have NB := Lib.hid (show (wr.alloc (.cells #[.int .i64 n.kind, .int .i64 n.num, .string n.text, .slice pao n.parts.length pcap, .slice kao n.kids.length kcap] 35)).heap[wr.heap.size]? = some (.cells #[.int .i64 n.kind, .int .i64 n.num, .string n.text, .slice pao n.parts.length pcap, .slice kao n.kids.length kcap] 35 (0, 0)) from heap_alloc_new wr _)
      go_upto_region 6 with fail
      generalize wr.alloc (.cells #[.int .i64 n.kind, .int .i64 n.num, .string n.text, .slice pao n.parts.length pcap, .slice kao n.kids.length kcap] 35) = w1 at *
      have BW := Lib.hid (B.out.trans (B1.out.mono B.out.size))
      have O1 := Lib.hid (own_below O.out B1.out)
      have K1 := Lib.hid (KV.out.below B1.out)
      have PV1 := Lib.hid (show PartsRd w1 (.slice pao n.parts.length pcap) n.parts from Rds.below PVR.out B1.out)
      have n0 := cell_of_row _ _ 0 _ _ _ NB.out
      have n1 := cell_of_row _ _ 1 _ _ _ NB.out
      have n2 := cell_of_row _ _ 2 _ _ _ NB.out
      have n3 := cell_of_row _ _ 3 _ _ _ NB.out
      have n4 := cell_of_row _ _ 4 _ _ _ NB.out
      simp at n0 n1 n2 n3 n4
      clear c0 c1 c2 c3 c4 B1 B
      generalize wr.heap.size = G at *
      by_cases hlt : roots.length < n.kids.length
      · have hneg : (roots.length : Int) - (n.kids.length : Int) < 0 := by omega
        have TP := Lib.hid (show treeP ns = false by rw [← HT.out, HD.out, treeGo, if_neg (by omega)])
        have hnegd : decide ((roots.length : Int) - (n.kids.length : Int) < 0) = true := by simpa using hneg
        go_quiet (fail)
        go_wp2
        go_ret
        exact ⟨by rw [TP.out]; rfl, below_drewN BW.out _⟩
      · have hr : (roots.length : Int) - (n.kids.length : Int) = ((roots.length - n.kids.length : Nat) : Int) := by omega
        have hrl2 : roots.length - n.kids.length ≤ roots.length := by omega
        obtain ⟨ao', cap', hsl, hdr⟩ := own_drop O1.out rfl (roots.length - n.kids.length) hrl2
        obtain ⟨hrc, htk, hown⟩ := own_take O1.out rfl (roots.length - n.kids.length) hrl2
        have sl1 := fun W => (sl_from rao roots.length rcap (roots.length - n.kids.length) hrl2 W).trans (by rw [hsl])
        have DR := Lib.hid hdr
        have OT := Lib.hid hown
        have TK := Lib.hid (And.intro hrc htk)
        have LE := Lib.hid hlt
        generalize hR : roots.length - n.kids.length = r at *
        have HR := Lib.hid hR
        rw [hr]
        clear hr hlt hsl hdr hown hrc htk hR
        have hr0 : decide ((r : Int) < 0) = false := by simp
        by_cases heq : roots.drop r = n.kids
        · have DE := Lib.hid (show decide (roots.drop r = n.kids) = true from decide_eq_true heq)
          have EQ : ∀ k, Calls Tryz.prog 49 #[.slice ao' (roots.length - r) cap', .slice kao n.kids.length kcap] (w1.drewN k) (Quiet (.bool true) (w1.drewN k)) := fun k => by
            have := pequal (w1.drewN k) _ _ (roots.drop r) n.kids (DR.out.below (below_drawn w1 k)) (K1.out.below (below_drawn w1 k)) (by simp; omega) hKs
            rw [DE.out] at this
            exact this
          have HQ := Lib.hid EQ
          clear EQ
          cases hnp : nodeP n
          · have NP := Lib.hid hnp
            have TP := Lib.hid (show treeP ns = false by rw [← HT.out, HD.out, treeGo, if_pos (by have := LE.out; omega), HR.out, if_pos heq, if_neg (by rw [hnp]; simp)])
            clear heq hnp
            go_region_with (first
              | (go_at_call 49; refine (HQ.out _).mono ?_; rintro e w' ⟨rfl, q, rfl⟩)
              | (go_at_call 50; refine (pnode _ n _ _ _ _ (Rds.below PV1.out (below_drawn w1 _)) EA.out.1 EA.out.2 TS.out ?_).mono ?_; exact V.out.below (below_drewN BW.out _) V.out.lt; rw [NP.out]; rintro e w' ⟨rfl, hb⟩; have HB := Lib.hid ((below_drewN BW.out _).trans (hb.mono (below_drewN BW.out _).size)); clear hb))
            all_goals go_wp2
            all_goals go_ret
            all_goals exact ⟨by rw [TP.out]; rfl, HB.out⟩
          · have NP := Lib.hid hnp
            have NX := Lib.hid (show treeGo (ns.drop (j + 1)) ((j + 1 : Nat) : Int) (roots.take r ++ [(j : Int)]) = treeP ns by
              have h := HT.out
              rw [HD.out, treeGo, if_pos (by have := LE.out; omega), HR.out, if_pos heq, if_pos hnp] at h
              rw [← h]
              rfl)
            have sl2 := fun W => (sl_to rao roots.length rcap r TK.out.1 W).trans (by rw [TK.out.2])
            have RJ := Lib.hid (show r ≤ j by omega)
            have LJ := Lib.hid (And.intro hjl (show (roots.take r).length = r by simp; omega))
            clear heq hnp
            go_region_with (first
              | (go_at_call 49; refine (HQ.out _).mono ?_; rintro e w' ⟨rfl, q, rfl⟩)
              | (go_at_call 50; refine (pnode _ n _ _ _ _ (Rds.below PV1.out (below_drawn w1 _)) EA.out.1 EA.out.2 TS.out ?_).mono ?_; exact V.out.below (below_drewN BW.out _) V.out.lt; rw [NP.out]; rintro e w' ⟨rfl, hb⟩; have HB := Lib.hid ((below_drewN BW.out _).trans (hb.mono (below_drewN BW.out _).size)); have HBL := Lib.hid (below_drewL hb); clear hb))
            all_goals (go_wp2_with (at_builtin; refine wpList_append_own _ rfl _ _ 33 rfl w.heap.size 3 i0 _ 1 8 Tryz.underlying33 hi0 hz0 hz1 hz2 rfl (by decide) (.slice rao r rcap) (roots.take r).length (kidCells (roots.take r)) rfl (World.ownsRow.alloc (own_below OT.out HBL.out) _) ⟨w'.heap.size, 0, none⟩ 1 1 [.int .i64 j] rfl rfl ?a1 ?b1 ?c1 ?d1 ?e1 ?_))
            case a1 => exact news_new w' #[.int .i64 j] 3
            case b1 => simp [Value.oneCell']
            case c1 => have := RJ.out; have := LJ.out.2; have := HL.out; have := LJ.out.1; unfold maxLen; omega
            case d1 => have := RJ.out; have := LJ.out.2; have := HL.out; have := LJ.out.1; omega
            case e1 => have := HB.out.size; simp; omega
            intro v' w6 hown hgrow _
            have hg6 := grown_trans (World.grownBy_alloc w' _ _) hgrow
            have BZ := Lib.hid (Below.grown HB.out hg6 HB.out.size (fun k hk => (World.ownsRow.lt OT.out k hk).1))
            have OZ := Lib.hid (show w6.ownsRow w.heap.size 3 1 v' (roots.take r ++ [(j : Int)]).length (kidCells (roots.take r ++ [(j : Int)])) by
              rw [List.length_append, LJ.out.2]
              simpa [kidCells] using hown)
            clear hown hgrow hg6
            go_wp2_with fail
            go_roundg (ns.length - (j + 1))
            case rel => exact ⟨j + 1, roots.take r ++ [(j : Int)], rfl, Nat.le_refl _, LJ.out.1, NX.out, BZ.out, OZ.out, by have := RJ.out; have := LJ.out.2; simp at this ⊢; omega⟩
            case measure => have := HM.out; have := LJ.out.1; omega
        · have DE := Lib.hid (show decide (roots.drop r = n.kids) = false from decide_eq_false heq)
          have TP := Lib.hid (show treeP ns = false by rw [← HT.out, HD.out, treeGo, if_pos (by have := LE.out; omega), HR.out, if_neg heq])
          have EQ : ∀ k, Calls Tryz.prog 49 #[.slice ao' (roots.length - r) cap', .slice kao n.kids.length kcap] (w1.drewN k) (Quiet (.bool false) (w1.drewN k)) := fun k => by
            have := pequal (w1.drewN k) _ _ (roots.drop r) n.kids (DR.out.below (below_drawn w1 k)) (K1.out.below (below_drawn w1 k)) (by simp; omega) hKs
            rw [DE.out] at this
            exact this
          have HQ := Lib.hid EQ
          clear EQ heq
          go_quiet ((go_at_call 49; exact quietAt (HQ.out _)))
          go_wp2
          go_ret
          exact ⟨by rw [TP.out]; rfl, below_drewN BW.out _⟩
    · have hj0 : j = ns.length := by omega
      have RL := Lib.hid (show (roots.length == 1) = treeP ns by
        rw [← HT.out, hj0, List.drop_length]; rfl)
      go_wp2_with fail
      go_ret
      refine ⟨?_, B.out⟩
      rw [← RL.out]
      have e : ((roots.length : Int) == 1) = (roots.length == 1) := by
        rw [Bool.eq_iff_iff]; simp; omega
      rw [← e]
      rfl
end
end Go.Proofs.YtlkdicabmikhkaaGreatDoor
