/- Package eval: Expr of a tree in which nothing is chosen. -/
import Derived.Test.YtndeihmclecmcaaGreatDoorEvIr
namespace Go.Proofs.YtndeihmclecmcaaGreatDoor
open Go.RowKit
set_option linter.unusedVariables false
set_option linter.unusedSimpArgs false
theorem grown_drewE {X Y : World} {row : Option Nat} (h : X.drew.grownBy Y row) : X.grownBy Y row := ⟨h.os, h.tape, h.output, h.size, h.block⟩
theorem far_b {W w6 : World} {R e z n b : Nat} {v : Value} {xs : List Value} (h : W.ownsRow (R + 1) e z v n xs) (hg : W.grownBy w6 v.ownBlock) (hb : b < W.heap.size) (hR : b < R) : w6.heap[b]? = W.heap[b]? :=
  hg.block b hb (fun q => by have := (World.ownsRow.lt h b q.symm).1; omega)
theorem far_gg {w6 : World} {R b e z n gg cap : Nat} {xs : List Value} (h : w6.ownsRow (R + 1) e z (.slice (some ⟨gg, 0, none⟩) n cap) n xs) (hR : b < R) : ¬ gg = b := fun q => by have := (World.ownsRow.lt h gg rfl).1; omega
theorem row_new {w6 : World} {R N gg cc : Nat} {pt : List (VL × Value)} (h : w6.ownsRow (R + 1) 39 4 (.slice (some ⟨gg, 0, none⟩) (N + 1) cc) (N + 1) (rowCells pt ++ [.int .i64 0, .int .i64 0, .string ⟨#[]⟩, .slice none 0 0])) (hN : pt.length = N) :
    w6.cell? ⟨gg, N * 4, none⟩ = some (.int .i64 0) ∧ w6.cell? ⟨gg, N * 4 + 1, none⟩ = some (.int .i64 0) ∧ w6.cell? ⟨gg, N * 4 + 2, none⟩ = some (.string ⟨#[]⟩) ∧ w6.cell? ⟨gg, N * 4 + 3, none⟩ = some (.slice none 0 0) ∧
    w6.frozen? ⟨gg, N * 4, none⟩ = false ∧ w6.frozen? ⟨gg, N * 4 + 1, none⟩ = false ∧ w6.frozen? ⟨gg, N * 4 + 2, none⟩ = false ∧ w6.frozen? ⟨gg, N * 4 + 3, none⟩ = false := by
  have hl : (rowCells pt).length = N * 4 := by rw [rowCells_len, hN]
  have k : ∀ r, r < 4 → w6.cell? ⟨gg, N * 4 + r, none⟩ = ([.int .i64 0, .int .i64 0, .string ⟨#[]⟩, .slice none 0 0] : List Value)[r]? := fun r hr => by
    rw [World.ownsRow.cellAt h (N * 4 + r) (by omega), List.getElem?_append_right (by omega), hl]
    congr 1; omega
  exact ⟨k 0 (by omega), k 1 (by omega), k 2 (by omega), k 3 (by omega), World.ownsRow.frozenAt h _, World.ownsRow.frozenAt h _, World.ownsRow.frozenAt h _, World.ownsRow.frozenAt h _⟩
def AnsRel (w0 w : World) (b g ga R : Nat) (nv : Value) (ns : List NodeL) (ab : List Int) (M : NodeL → List VL → Option (VL × Int)) (r : VL × Int) (m : Nat) (iv : Value) (wr : World) : Prop :=
  ∃ (j : Nat) (vv : Value) (ps : List (VL × Value)), iv = .int .i64 j ∧ ns.length - j ≤ m ∧ j < ns.length ∧ ps.length ≤ j ∧ evR M (ns.drop j) (ps.map (·.1)) = some r ∧ (∀ p ∈ ps, I64 p.1.num) ∧ Mid w0 w b g ga R nv ns ab vv ps wr
section
variable (w0 w : World)
set_option maxHeartbeats 8000000 in
set_option maxRecDepth 20000 in
theorem panswer (X : World → Prop) (hX : ∀ w w', X w → Below w.heap.size w w' → X w') (hX0 : X w0) (b g nn ga : Nat) (nv : Value) (L : ByteArray → Option VL) (ns : List NodeL) (ab : List Int) (M : NodeL → List VL → Option (VL × Int)) (r : VL × Int)
    (hold0 : Below w0.heap.size w0 w) (hw0b : w0.heap.size ≤ b) (hb : AskB w b g nv (.slice (some ⟨ga, 0, none⟩) ns.length ns.length) (.slice none 0 0)) (hs : ScopeAt w0 0 g nn L) (hn : NodesRd w0 nv ns) (ha : ∀ (i : Nat) (x : Int), ab[i]? = some x → w.cell? ⟨ga, i, none⟩ = some (.int .i64 x)) (hab : ga ≠ b) (hga : ga < w.heap.size)
    (hp : PlainAbove ns ab) (hl : ns.length ≤ 100000) (hnil : ns ≠ []) (hc : ∀ n ∈ ns, choosesB n.kind = false)
    (hM : ∀ n ∈ ns, ∀ vs r, M n vs = some r → MadeOK X L n vs r ∧ I64 r.1.num ∧ r.1.kids = []) (hr : evR M ns [] = some r) :
    Calls Tryz.prog 72 #[.pointer (some ⟨b, 0, none⟩)] w fun e w' => ∃ lv, e = .returned (.tuple #[r.1.val lv, .int .i64 r.2]) ∧ RowRd w' 0 r.1.kids lv ∧ w.grownBy w' (some b) := by
  have hpos : 0 < ns.length := List.length_pos_iff.2 hnil
  have HC := Lib.hid hc
  have HX := Lib.hid (fun V (h : Below w0.heap.size w0 V) => hX w0 V hX0 h)
  have HMM := Lib.hid hM
  have HP := Lib.hid hp
  have HS := Lib.hid hs
  have HNn := Lib.hid hn
  obtain ⟨-, b1, -, -, b4, -⟩ := hb.cells
  obtain ⟨ao, cap, rfl, -⟩ := hn.at
  have BA := below_al (Below.refl w.heap.size w) (.cells #[.int .i64 0, .int .i64 0, .string ⟨#[]⟩, .slice none 0 0] 39)
  have R0 := Lib.hid (show ∀ q, AnsRel w0 w b g ga w.heap.size (.slice ao ns.length cap) ns ab M r ns.length (.int .i64 (0 : Nat)) ((w.alloc (.cells #[.int .i64 0, .int .i64 0, .string ⟨#[]⟩, .slice none 0 0] 39)).drewN q) from fun q =>
    ⟨0, .slice none 0 0, [], rfl, Nat.le_refl _, hpos, Nat.le_refl _, hr, fun p hp => by (cases hp), Mid.below ⟨hold0.trans (BA.mono hold0.size), hb.below BA, fun i x hx => hold BA (ha i x hx), NBlk.new w 0 0 ⟨#[]⟩, World.ownsRow_nil _ _ _ _, KidsRd.nil _ _, World.grownBy_alloc w _ _⟩ (below_drawn _ q)⟩)
  have hlast : (ns.length : Int) - 1 = ((ns.length - 1 : Nat) : Int) := by omega
  have hw1 : IntKind.i64.wrap ((ns.length : Int) - 1) = ((ns.length - 1 : Nat) : Int) := by rw [hlast, IntKind.wrap_i64]; omega
  have b1' : (w.alloc (.cells #[.int .i64 0, .int .i64 0, .string ⟨#[]⟩, .slice none 0 0] 39)).cell? ⟨b, 1, none⟩ = some (.slice ao ns.length cap) := hold BA b1
  have LTs := Lib.hid (show b < w.heap.size ∧ ga < w.heap.size ∧ w0.heap.size ≤ b ∧ ga ≠ b from ⟨b4, hga, hw0b, hab⟩)
  clear hX hX0 hb hs hn ha hr hc hM hp b1 BA hold0 hw0b hab hga
  go_enter Tryz.func72, Tryz.ntmps72
  go_upto_region 1 with fail
  generalize w.alloc (.cells #[.int .i64 0, .int .i64 0, .string ⟨#[]⟩, .slice none 0 0] 39) = wz at *
  generalize hR : w.heap.size = R at *
  go_quiet (fail)
  go_wp2_with fail
  clear b1' hw1 hlast
  go_loopg [4] ns.length (fun m v wr => AnsRel w0 w b g ga R (.slice ao ns.length cap) ns ab M r m v wr)
  case atStart => exact R0.out _
  case round =>
    obtain ⟨j, vv, ps, rfl, hm, hj, hpj, hev, hi, hmid⟩ := hrel
    have HM := Lib.hid hm
    have HI := Lib.hid hi
    obtain ⟨n, hnn⟩ : ∃ n, ns[j]? = some n := ⟨_, List.getElem?_eq_getElem hj⟩
    have hmem : n ∈ ns := List.mem_of_getElem? hnn
    have hd : ns.drop j = n :: ns.drop (j + 1) := by
      obtain ⟨h1, h2⟩ := List.getElem?_eq_some_iff.1 hnn
      rw [← h2]
      exact List.drop_eq_getElem_cons h1
    rw [hd, evR, List.length_map] at hev
    by_cases hkl : n.kids.length ≤ ps.length
    case neg => rw [if_neg hkl] at hev; cases hev
    rw [if_pos hkl] at hev
    simp only [Option.bind_eq_some_iff] at hev
    obtain ⟨r1, hr1, hev⟩ := hev
    obtain ⟨hMade, hI1, hK1⟩ := HMM.out n hmem _ _ hr1
    have HK1 := Lib.hid hK1
    rw [← List.map_drop] at hMade
    have HMD := Lib.hid hMade
    have HEV := Lib.hid hev
    have HI1 := Lib.hid hI1
    have PL := Lib.hid (And.intro hkl hpj)
    have MID := Lib.hid hmid
    have GBx := Lib.hid hmid.blk.cells.2.2.2.2.1
    obtain ⟨-, m1, -, -, -, -⟩ := hmid.blk.cells
    obtain ⟨ao2, cap2, e2, hat⟩ := HNn.out.at
    simp at e2
    obtain ⟨rfl, rfl⟩ := e2
    obtain ⟨g3, o, pv, kv, rfl, hpv, hkv, c0, c1, c2, c3, c4⟩ := hat j n hnn
    obtain ⟨pao, pcap, rfl⟩ : ∃ pao pcap, pv = .slice pao n.parts.length pcap := by obtain ⟨a, b, e, -⟩ := hpv; exact ⟨a, b, e⟩
    obtain ⟨kao, kcap, rfl⟩ := hkv.len
    have PVw := Lib.hid hpv
    replace c0 := hold hmid.old c0
    replace c1 := hold hmid.old c1
    replace c2 := hold hmid.old c2
    replace c3 := hold hmid.old c3
    replace c4 := hold hmid.old c4
    have NB0 := Lib.hid (show NodeB (wr.alloc (.cells #[.int .i64 n.kind, .int .i64 n.num, .string n.text, .slice pao n.parts.length pcap, .slice kao n.kids.length kcap] 35)) wr.heap.size n pao kao pcap kcap from heap_alloc_new wr _)
    have M3 := Lib.hid (show Mid w0 w b g ga R (.slice (some ⟨g3, o, none⟩) ns.length cap) ns ab vv ps (wr.alloc (.cells #[.int .i64 n.kind, .int .i64 n.num, .string n.text, .slice pao n.parts.length pcap, .slice kao n.kids.length kcap] 35)) from hmid.below (below_al (Below.refl _ _) _))
    clear hat hnn hpv hkv hm hi hev hr1 hMade hI1 hK1 hkl hpj hmid hd
    go_upto_region 3 with fail
    generalize wr.alloc (.cells #[.int .i64 n.kind, .int .i64 n.num, .string n.text, .slice pao n.parts.length pcap, .slice kao n.kids.length kcap] 35) = w3 at *
    clear c0 c1 c2 c3 c4 m1 MID
    have GB := Lib.hid (show b < wr.heap.size from GBx.out)
    generalize wr.heap.size = G at *
    have CH := HC.out n hmem
    have PN := Lib.hid (show ∀ V, Below w3.heap.size w3 V → Calls Tryz.prog 99 #[.agg #[.int .i64 n.kind, .int .i64 n.num, .string n.text, .slice pao n.parts.length pcap, .slice kao n.kids.length kcap]] V (fun e V' => e = .returned (.int .i64 n.kids.length) ∧ Below w3.heap.size w3 V' ∧ Below V.heap.size V V') from fun V hV => (pneeds V n pao kao n.parts.length pcap kcap).mono (by
      rintro e V' ⟨rfl, hb'⟩
      refine ⟨?_, hV.trans (hb'.mono hV.size), hb'⟩
      unfold needsR
      rw [CH]; rfl))
    have PT := Lib.hid (show ∀ V, Below w3.heap.size w3 V → Calls Tryz.prog 98 #[.pointer (some ⟨b, 0, none⟩), .int .i64 n.kids.length] V (fun e V' => ∃ ao3 cap3 vv', e = .returned (.slice ao3 n.kids.length cap3) ∧ Taken w0 w w3 b g ga R G (.slice (some ⟨g3, o, none⟩) ns.length cap) ns ab (ps.take (ps.length - n.kids.length)) ((ps.drop (ps.length - n.kids.length)).map (·.1)) n pao kao pcap kcap vv' (.slice ao3 n.kids.length cap3) V' ∧ (∀ k, w3.heap.size ≤ k → V'.heap[k]? = V.heap[k]?) ∧ V.heap.size ≤ V'.heap.size) from fun V hV => by
      have hM := M3.out.below hV
      refine (ptake V b g (R + 1) (by have := LTs.out.1; omega) _ _ _ ps hM.blk hM.own hM.kids (by have := PL.out; omega) n.kids.length PL.out.1).mono ?_
      rintro e V' ⟨ao3, cap3, vv', rfl, rfl, hob, hrow, hown⟩
      have hbw := (Array.getElem?_eq_some_iff.1 M3.out.blk).1
      refine ⟨ao3, cap3, vv', rfl, ⟨hM.put LTs.out.2.2.1 LTs.out.1 LTs.out.2.2.2 vv' _ hown (fun p hp => hM.kids p (List.mem_of_mem_take hp)), hrow, (heap_setCell_other V ⟨b, 3, none⟩ G vv' (by have := GB.out; simp; omega)).trans (NB0.out.below hV), fun k hk => ?_⟩, fun k hk => heap_setCell_other V ⟨b, 3, none⟩ k vv' (by simp; omega), by simp [World.setCell]⟩
      rw [hob] at hk
      exact (World.ownsRow.lt M3.out.own k hk).2)
    have PM := Lib.hid (show ∀ V vv' ao3 cap3, Taken w0 w w3 b g ga R G (.slice (some ⟨g3, o, none⟩) ns.length cap) ns ab (ps.take (ps.length - n.kids.length)) ((ps.drop (ps.length - n.kids.length)).map (·.1)) n pao kao pcap kcap vv' (.slice ao3 n.kids.length cap3) V →
        Calls Tryz.prog 97 #[.pointer (some ⟨b, 0, none⟩), .agg #[.int .i64 n.kind, .int .i64 n.num, .string n.text, .slice pao n.parts.length pcap, .slice kao n.kids.length kcap], .slice ao3 n.kids.length cap3] V (fun e V' => ∃ lo lc, e = .returned (.tuple #[.agg #[.int .i64 r1.1.kind, .int .i64 r1.1.num, .string r1.1.text, .slice lo 0 lc], .int .i64 r1.2]) ∧ Mid w0 w b g ga R (.slice (some ⟨g3, o, none⟩) ns.length cap) ns ab vv' (ps.take (ps.length - n.kids.length)) V' ∧ (∀ k, vv'.ownBlock = some k → k < w3.heap.size) ∧ Below V.heap.size V V') from fun V vv' ao3 cap3 hT => by
      refine (HMD.out V b g nn _ _ vv' pao kao pcap kcap _ ⟨hT.mid.blk, HS.out.below hT.mid.old, Rds.below PVw.out hT.mid.old, hT.row, fun v hv => ?_, HX.out V hT.mid.old⟩).mono ?_
      · obtain ⟨p, hp, rfl⟩ := List.mem_map.1 hv
        exact HI.out p (List.mem_of_mem_drop hp)
      · rintro e V' ⟨lv, rfl, ⟨hk0, lo, lc, rfl⟩, hb'⟩
        exact ⟨lo, lc, rfl, hT.mid.below hb', hT.far, hb'⟩)
    refine reg3 (Lib.hid ⟨by omega, by have := LTs.out; omega, LTs.out.1, LTs.out.2.1, M3.out.res.lt⟩) (Array.getElem?_eq_some_iff.1 M3.out.blk).1 NB0 PN PT PM (Lib.hid ?_)
    intro y22 y23 y24 y25 y26 y27 y28 y29 y30 y31 H W vv' lo lc hvb hmw
    clear PN PT PM HMD M3 NB0 PVw
    dsimp only
    obtain ⟨v0, v1, v2, v3⟩ := hvb.cells
    have vl := hvb.lt
    obtain ⟨⟨z0, z1, z2, z3, z4⟩, f0, f1, f2, f3⟩ := hmw.res.full
    have HMW := Lib.hid hmw
    have hev := HEV.out
    by_cases hfin : r1.2 ≠ 0 ∨ ns.drop (j + 1) = []
    · rw [if_pos hfin] at hev
      obtain rfl : r1 = r := by simpa using hev
      have DN := Lib.hid (show w.grownBy ((((W.setCell ⟨R, 0, none⟩ (.int .i64 r1.1.kind)).setCell ⟨R, 1, none⟩ (.int .i64 r1.1.num)).setCell ⟨R, 2, none⟩ (.string r1.1.text)).setCell ⟨R, 3, none⟩ (.slice lo 0 lc)) (some b) from
        grown_set (grown_set (grown_set (grown_set hmw.grow (.inr (by omega)) _ _) (.inr (by omega)) _ _) (.inr (by omega)) _ _) (.inr (by omega)) _ _)
      clear hmw hvb hev HEV
      by_cases hne : r1.2 = 0
      · have hjl : j = ns.length - 1 := by
          rcases hfin with h | h
          · exact absurd hne h
          · have := List.drop_eq_nil_iff.1 h; omega
        have g1 : (r1.2 != 0) = false := by simp [hne]
        have g2 : ((j : Int) == ((ns.length - 1 : Nat) : Int)) = true := by simp; omega
        clear hfin hne hjl
        go_wp2_with fail
        refine bodyPost_ret (v := .tuple #[.agg #[.int .i64 r1.1.kind, .int .i64 r1.1.num, .string r1.1.text, .slice lo 0 lc], .int .i64 r1.2]) ?_ rfl ⟨.slice lo 0 lc, rfl, ⟨HK1.out, _, _, rfl⟩, DN.out⟩
        simp [results, Tryz.results72, go_sem, z0, z1, z2, z3, z4]
      · have g1 : (r1.2 != 0) = true := by simpa using hne
        clear hfin hne
        go_wp2_with fail
        refine bodyPost_ret (v := .tuple #[.agg #[.int .i64 r1.1.kind, .int .i64 r1.1.num, .string r1.1.text, .slice lo 0 lc], .int .i64 r1.2]) ?_ rfl ⟨.slice lo 0 lc, rfl, ⟨HK1.out, _, _, rfl⟩, DN.out⟩
        simp [results, Tryz.results72, go_sem, z0, z1, z2, z3, z4]
    · rw [if_neg hfin] at hev
      have hne : r1.2 = 0 := by
        by_cases h : r1.2 = 0
        · exact h
        · exact absurd (.inl h) hfin
      have hjl : j + 1 < ns.length := by
        by_cases h : j + 1 < ns.length
        · exact h
        · exact absurd (.inr (List.drop_eq_nil_iff.2 (by omega))) hfin
      have g1 : (r1.2 != 0) = false := by simp [hne]
      have g2 : ((j : Int) == ((ns.length - 1 : Nat) : Int)) = false := by simp; omega
      obtain ⟨i0, hi0, hz0, hz1, hz2⟩ := info_parts info_valE
      have hpt : (ps.take (ps.length - n.kids.length)).length ≤ 100000 := by have := PL.out.2; simp; omega
      have PLT := Lib.hid (show (ps.take (ps.length - n.kids.length)).length ≤ j by have := PL.out.2; simp; omega)
      have IT := Lib.hid (show ∀ p ∈ ps.take (ps.length - n.kids.length) ++ [(r1.1, Value.slice lo 0 lc)], I64 p.1.num from fun p hp => by
        rcases List.mem_append.1 hp with hp | hp
        · exact HI.out p (List.mem_of_mem_take hp)
        · simp at hp; subst hp; exact HI1.out)
      have EVN := Lib.hid (show evR M (ns.drop (j + 1)) ((ps.take (ps.length - n.kids.length) ++ [(r1.1, Value.slice lo 0 lc)]).map (·.1)) = some r by
        rw [List.map_append, List.map_take]; exact hev)
      clear hfin hev HEV
      generalize ps.take (ps.length - n.kids.length) = pt at *
      generalize hN : pt.length = N at *
      obtain ⟨ro, rc, hvv⟩ := own_len hmw.own
      rw [hN] at hvv
      subst hvv
      have HN := Lib.hid hN
      have OW := Lib.hid (show W.ownsRow (R + 1) 39 4 (.slice ro N rc) N (rowCells pt) by have := hmw.own; rw [hN] at this; exact this)
      have HF := Lib.hid (show N + 1 ≤ maxLen ∧ (N + 1) * 56 ≤ 140737488355328 by unfold maxLen; omega)
      obtain ⟨-, -, -, k3, kb, kf⟩ := hmw.blk.cells
      have LR := Lib.hid (show R + 1 ≤ W.heap.size by omega)
      clear hmw hvb z0 z1 z2 z3 f0 f1 f2 f3
      have bx0 : (0 : Int) ≤ (N : Int) := by omega
      have bx1 : (N : Int) < (N : Int) + 1 := by omega
      have bx2 : N < N + 1 := by omega
      go_upto_region 6 with fail
      go_region_law (first | (refine step_append_lies _ (by rfl) _ _ _ (by rfl) (R + 1) 39 i0 _ 4 56 Tryz.underlying37 hi0 hz0 hz1 hz2 rfl (by omega) (.slice ro N rc) N (rowCells pt) (by rfl) (by exact (World.ownsRow.alloc OW.out _)) ⟨W.heap.size, 0, none⟩ 1 1 [.int .i64 0, .int .i64 0, .string ⟨#[]⟩, .slice none 0 0] (by rfl) (by rfl) (by exact (news_new W #[.int .i64 0, .int .i64 0, .string ⟨#[]⟩, .slice none 0 0] 39)) (by simp [Value.oneCell']) (by omega) HF.out.1 HF.out.2 (by have := LR.out; simp; omega) (W.heap.size + 1) (by simp) ?_; intro gg cc w6 hown' hgrow hat hlt; have hg6 := grown_trans (World.grownBy_alloc W _ _) (grown_drewE hgrow); have hfar := far_b OW.out hg6 kb LTs.out.1; have g36 : w6.cell? ⟨b, 3, none⟩ = some (.slice ro N rc) := (World.cell?_of_block (a := ⟨b, 3, none⟩) hfar).trans k3; have g46 : w6.frozen? ⟨b, 3, none⟩ = false := (World.frozen?_of_block (a := ⟨b, 3, none⟩) hfar).trans kf; obtain ⟨y0, y1, y2, y3, fy0, fy1, fy2, fy3⟩ := row_new hown' HN.out; have hbg1 : ¬ gg = b := far_gg hown' LTs.out.1; have hbg2 : ¬ b = gg := fun q => hbg1 q.symm; have hb6 : b < w6.heap.size := Nat.lt_of_lt_of_le kb hg6.size))
      all_goals (
        have FM : Mid w0 w b g ga R (.slice (some ⟨g3, o, none⟩) ns.length cap) ns ab (.slice (some ⟨gg, 0, none⟩) (N + 1) cc) (pt ++ [(r1.1, .slice lo 0 lc)]) (laid5 w6 gg N b r1.1 lo lc cc) := HMW.out.app (Nat.le_of_eq hR) LTs.out.2.2.1 LTs.out.1 LTs.out.2.1 LTs.out.2.2.2 N HN.out hown' hg6 r1.1 lo lc HK1.out
        have FX := Lib.hid FM
        clear FM)
      all_goals first
        | rw [laid5_other _ _ _ _ _ _ _ _ hbg2]
        | rw [show ((((w6.setCell ⟨gg, N * 4, none⟩ (.int .i64 r1.1.kind)).setCell ⟨gg, N * 4 + 1, none⟩ (.int .i64 r1.1.num)).setCell ⟨gg, N * 4 + 2, none⟩ (.string r1.1.text)).setCell ⟨gg, N * 4 + 3, none⟩ (.slice lo 0 lc)).setCell ⟨b, 3, none⟩ (.slice (some ⟨gg, 0, none⟩) (N + 1) cc) = laid5 w6 gg N b r1.1 lo lc cc from rfl]
      all_goals (
        generalize laid5 w6 gg N b r1.1 lo lc cc = W7 at *
        clear y0 y1 y2 y3 fy0 fy1 fy2 fy3 g36 g46 hb6 hfar hg6 hown' hgrow hat hlt k3 kb kf
        have NX := Lib.hid (pnext W7 b g ga _ _ ns ab FX.out.blk (HNn.out.below FX.out.old) FX.out.above HP.out hl j hjl))
      all_goals (
        go_wp2_with fail
        refine NX.out.mono ?_
        rintro e w8 ⟨rfl, hb8⟩
        have F8 := Lib.hid (FX.out.below hb8)
        clear hb8
        go_wp2_with fail
        go_roundg (ns.length - (j + 1)))
      all_goals first
        | exact ⟨j + 1, _, pt ++ [(r1.1, .slice lo 0 lc)], rfl, Nat.le_refl _, hjl, by have := PLT.out; have := HN.out; simp; omega, EVN.out, IT.out, F8.out⟩
        | (have := HM.out; omega)
end
end Go.Proofs.YtndeihmclecmcaaGreatDoor
namespace Go.Proofs.YtndeihmclecmcaaGreatDoor
open Go.RowKit
set_option linter.unusedVariables false
set_option linter.unusedSimpArgs false
theorem above_cells {w : World} {B ga n : Nat} {acc : List Int} (h : w.ownsRow B 3 1 (.slice (some ⟨ga, 0, none⟩) n n) n (kidCells acc)) (hl : acc.length = n) (i : Nat) (x : Int) (hx : acc[i]? = some x) : w.cell? ⟨ga, i, none⟩ = some (.int .i64 x) := by
  have hi : i < n := by rw [← hl]; exact (List.getElem?_eq_some_iff.1 hx).1
  rw [World.ownsRow.cellAt h i (by omega), kidCells, List.getElem?_map, hx]
  rfl
theorem above_apart {w : World} {B ga b g n : Nat} {nv av vv : Value} {xs : List Value} (h : w.ownsRow B 3 1 (.slice (some ⟨ga, 0, none⟩) n n) n xs) (hb : AskB w b g nv av vv) : ga ≠ b := by
  rintro rfl
  rcases h.2 with ⟨e, -⟩ | ⟨g', cap', cur, e, -, hg, -⟩
  · cases e
  · simp only [Value.slice.injEq, Option.some.injEq, Addr.mk.injEq, and_true] at e
    obtain ⟨rfl, -⟩ := e
    have hb : w.heap[ga]? = some (.cells #[.map (some g), nv, av, vv] 178 (0, 0)) := hb
    rw [hg] at hb
    simp at hb
/-- What is asked for ahead of the walk through a tree: where kids stand, that nothing is chosen, what each node is made of. -/
structure Walk (X : World → Prop) (L : ByteArray → Option VL) (ns : List NodeL) (M : NodeL → List VL → Option (VL × Int)) (r : VL × Int) : Prop where
  kids : KidsOK ns
  above : PlainAbove ns (aboveTo ns ns.length)
  few : ns.length ≤ 100000
  some_ : ns ≠ []
  plain : ∀ n ∈ ns, choosesB n.kind = false
  made : ∀ n ∈ ns, ∀ vs r, M n vs = some r → MadeOK X L n vs r ∧ I64 r.1.num ∧ r.1.kids = []
  ans : evR M ns [] = some r
  leaf : r.1.kind ≠ 4
  keep : ∀ w w', X w → Below w.heap.size w w' → X w'
section
variable (w : World)
set_option maxHeartbeats 2000000 in
set_option maxRecDepth 20000 in
theorem pvalue (X : World → Prop) (hX0 : X w) (g nn : Nat) (nv : Value) (L : ByteArray → Option VL) (ns : List NodeL) (M : NodeL → List VL → Option (VL × Int)) (r : VL × Int) (hs : ScopeAt w 0 g nn L) (hn : NodesRd w nv ns) (hw : Walk X L ns M r) :
    Calls Tryz.prog 55 #[.map (some g), nv] w (Told r w) := by
  have HW := Lib.hid hw
  have HS := Lib.hid (hs.below (below_al (Below.refl _ _) (.cells #[.int .i64 0, .int .i64 0, .string ⟨#[]⟩, .slice none 0 0] 39)))
  have HN := Lib.hid (hn.below (below_al (Below.refl _ _) (.cells #[.int .i64 0, .int .i64 0, .string ⟨#[]⟩, .slice none 0 0] 39)))
  have NB := Lib.hid (NBlk.new w 0 0 ⟨#[]⟩)
  have B0 := Lib.hid (below_al (Below.refl w.heap.size w) (.cells #[.int .i64 0, .int .i64 0, .string ⟨#[]⟩, .slice none 0 0] 39))
  have HX := Lib.hid (hw.keep w _ hX0 B0.out)
  have gk : (r.1.kind == 4) = false := by simpa using hw.leaf
  clear hs hn hw hX0
  go_enter Tryz.func55, Tryz.ntmps55
  go_wp2_with fail
  generalize w.alloc (.cells #[.int .i64 0, .int .i64 0, .string ⟨#[]⟩, .slice none 0 0] 39) = w1 at *
  refine (pnewAsker w1 g nv ns HN.out HW.out.kids HW.out.few).mono ?_
  rintro e w2 ⟨b, ga, rfl, hb, h1, h2, h3⟩
  have AN := Lib.hid (panswer w1 w2 X HW.out.keep HX.out b g nn ga nv L ns _ M r h3 hb h1 HS.out HN.out (above_cells h2 (aboveTo_len ns _)) (above_apart h2 h1) (World.ownsRow.lt h2 ga rfl).2 HW.out.above HW.out.few HW.out.some_ HW.out.plain HW.out.made HW.out.ans)
  have B2 := Lib.hid h3
  have GE := Lib.hid hb
  clear h1 h2 h3 hb
  go_wp2_with fail
  refine AN.out.mono ?_
  rintro e w3 ⟨lv, rfl, ⟨hk, lo, lc, rfl⟩, hg⟩
  have B3 := Lib.hid (Below.grown B2.out hg B2.out.size (fun k hk => by simp at hk; have := GE.out; omega))
  obtain ⟨⟨z0, z1, z2, z3, z4⟩, f0, f1, f2, f3⟩ := (NB.out.below B3.out).full
  have BB := Lib.hid (B0.out.trans (B3.out.mono B0.out.size))
  clear hg AN
  unfold VL.val
  go_wp2_with fail
  refine bodyPost_ret (v := .tuple #[.agg #[.int .i64 r.1.kind, .int .i64 r.1.num, .string r.1.text, .slice none 0 0], .int .i64 r.2]) ?_ rfl ⟨rfl, below_al (below_set4 BB.out (Nat.le_refl _) _ _ _ _) _⟩
  simp [results, Tryz.results55, go_sem, z0, z1, z2, z3, z4]
theorem pexpr_no (nv bv : Value) (ns : List NodeL) (hn : NodesRd w nv ns) (he : ∀ n ∈ ns, Few n ∧ n.text.size ≤ 100000 ∧ n.kids.length ≤ 100000) (hl : ns.length ≤ 100000) (hv : ErrVar w) (ht : treeP ns = false) (hb : ∃ ao n cap, bv = .slice ao n cap) :
    Calls Tryz.prog 65 #[nv, bv] w (Told (vz, 1) w) := by
  have B0 := Lib.hid (below_al (Below.refl w.heap.size w) (.cells #[.int .i64 0, .int .i64 0, .string ⟨#[]⟩, .slice none 0 0] 39))
  have NB := Lib.hid (NBlk.new w 0 0 ⟨#[]⟩)
  have HT := Lib.hid (ptreeT _ nv ns (hn.below B0.out) he hl (hv.below B0.out hv.lt))
  obtain ⟨ao, cap, rfl, -⟩ := hn.at
  obtain ⟨bo, bn, bc, rfl⟩ := hb
  rw [ht] at HT
  clear hn he hv ht
  go_enter Tryz.func65, Tryz.ntmps65
  go_wp2_with fail
  refine HT.out.mono ?_
  rintro e w1 ⟨rfl, hb1⟩
  obtain ⟨⟨z0, z1, z2, z3, z4⟩, f0, f1, f2, f3⟩ := (NB.out.below hb1).full
  have B1 := Lib.hid (B0.out.trans (hb1.mono B0.out.size))
  clear hb1 HT
  go_wp2_with fail
  refine bodyPost_ret (v := .tuple #[.agg #[.int .i64 0, .int .i64 0, .string ⟨#[]⟩, .slice none 0 0], .int .i64 1]) ?_ rfl ⟨rfl, below_set4 B1.out (Nat.le_refl _) _ _ _ _⟩
  simp [results, Tryz.results65, go_sem, z0, z1, z2, z3, z4]
theorem pexpr_yes (X : World → Prop) (hX0 : X w) (nv bv : Value) (ns : List NodeL) (bs : List (ByteArray × VL)) (M : NodeL → List VL → Option (VL × Int)) (r : VL × Int) (hn : NodesRd w nv ns) (he : ∀ n ∈ ns, Few n ∧ n.text.size ≤ 100000 ∧ n.kids.length ≤ 100000) (hv : ErrVar w) (ht : treeP ns = true)
    (hb : BindsRd w 0 bv bs) (hbl : bs.length ≤ 100000) (hbi : ∀ b ∈ bs, I64 b.2.num ∧ b.1.size ≤ 281474976710656) (hw : Walk X (lookL bs) ns M r) :
    Calls Tryz.prog 65 #[nv, bv] w (Told r w) := by
  have B0 := Lib.hid (below_al (Below.refl w.heap.size w) (.cells #[.int .i64 0, .int .i64 0, .string ⟨#[]⟩, .slice none 0 0] 39))
  have NB := Lib.hid (NBlk.new w 0 0 ⟨#[]⟩)
  have HT := Lib.hid (ptreeT _ nv ns (hn.below B0.out) he hw.few (hv.below B0.out hv.lt))
  have HN := Lib.hid hn
  have HB := Lib.hid hb
  have HBI := Lib.hid hbi
  have HW := Lib.hid hw
  have HX := Lib.hid hX0
  obtain ⟨ao, cap, rfl, -⟩ := hn.at
  obtain ⟨bo, bc, rfl, -⟩ := hb
  rw [ht] at HT
  clear hn he hv ht hbi hw hX0
  go_enter Tryz.func65, Tryz.ntmps65
  go_wp2_with fail
  refine HT.out.mono ?_
  rintro e w1 ⟨rfl, hb1⟩
  have B1 := Lib.hid (B0.out.trans (hb1.mono B0.out.size))
  have N1 := Lib.hid (NB.out.below hb1)
  clear hb1 HT
  go_wp2_with fail
  refine (pscope w1 0 _ bs (HB.out.below B1.out) hbl HBI.out).mono ?_
  rintro e w2 ⟨rfl, hb2, hs2⟩
  have B2 := Lib.hid (B1.out.trans (hb2.mono B1.out.size))
  have N2 := Lib.hid (N1.out.below hb2)
  have S2 := Lib.hid hs2
  clear hb2 hs2
  go_wp2_with fail
  refine (pvalue w2 X (HW.out.keep _ _ HX.out B2.out) _ _ _ (lookL bs) ns M r S2.out (HN.out.below B2.out) HW.out).mono ?_
  rintro e w3 ⟨rfl, hb3⟩
  obtain ⟨⟨z0, z1, z2, z3, z4⟩, f0, f1, f2, f3⟩ := (N2.out.below hb3).full
  have B3 := Lib.hid (B2.out.trans (hb3.mono B2.out.size))
  clear hb3
  go_wp2_with fail
  refine bodyPost_ret (v := .tuple #[.agg #[.int .i64 r.1.kind, .int .i64 r.1.num, .string r.1.text, .slice none 0 0], .int .i64 r.2]) ?_ rfl ⟨rfl, below_set4 B3.out (Nat.le_refl _) _ _ _ _⟩
  simp [results, Tryz.results65, go_sem, z0, z1, z2, z3, z4]
end
end Go.Proofs.YtndeihmclecmcaaGreatDoor
