/- Package refs: order, as long as no two places could come next at once. -/
import Derived.Test.YtdaphajnioiakaaGreatDoorRcH
namespace Go.Proofs.YtdaphajnioiakaaGreatDoor
open Go.RowKit
set_option linter.unusedVariables false
set_option linter.unusedSimpArgs false
/-- The places that could come first, if they are one at most. -/
def startE : Nat → List Int → List Int → Option (List Int)
  | _, [], P => some P
  | i, x :: xs, P => if x = 0 then (match P with | [] => startE (i + 1) xs [(i : Int)] | _ :: _ => none) else startE (i + 1) xs P
/-- One place has come: those behind it. -/
def behE (n : Nat) : List Int → List Int → List Int → Option (List Int × List Int)
  | [], wt, P => some (wt, P)
  | p :: ps, wt, P => if p < 0 ∨ (n : Int) ≤ p then none else match wt[p.toNat]? with
    | none => none
    | some x => if x < 1 ∨ 1000000 < x then none else if x = 1 then (match P with | [] => behE n ps (wt.set p.toNat 0) [p] | _ :: _ => none) else behE n ps (wt.set p.toNat (x - 1)) P
def ordE (n : Nat) (bh : List (List Int)) : Nat → List Int → List Int → List Int → Option (List Int)
  | 0, _, _, _ => none
  | _ + 1, [], _, acc => some acc
  | k + 1, [x], wt, acc => if x < 0 ∨ (n : Int) ≤ x then none else match bh[x.toNat]? with
    | none => none
    | some l => match behE n l wt [] with
      | none => none
      | some (wt', P') => ordE n bh k P' wt' (acc ++ [x])
  | _ + 1, _ :: _ :: _, _, _ => none
section
variable {w : World} {B b gw gb n : Nat} {pv : Value} {vs : List Value} {P wt : List Int} {bh : List (List Int)}
theorem RowAt.pshape (h : RowAt w B b gw gb n pv vs P wt bh) : ∃ ao cap, pv = .slice ao P.length cap := by
  rcases h.places.2 with ⟨rfl, h0⟩ | ⟨g, cap, cur, rfl, _⟩
  · rw [h0]; exact ⟨_, _, rfl⟩
  · exact ⟨_, _, rfl⟩
theorem RowAt.pone {x : Int} (h : RowAt w B b gw gb n pv vs [x] wt bh) : ∃ g cap, pv = .slice (some ⟨g, 0, none⟩) 1 cap := by
  rcases h.places.2 with ⟨rfl, h0⟩ | ⟨g, cap, cur, rfl, _⟩
  · simp at h0
  · exact ⟨_, _, rfl⟩
/-- The places that have come, beside the row. -/
structure OutAt (w : World) (B b gw : Nat) (pv : Value) (vs : List Value) (ov : Value) (acc : List Int) : Prop where
  own : w.ownsRow B 3 1 ov acc.length (intCells acc)
  apart : ∀ k, ov.ownBlock = some k → k ≠ gw ∧ pv.ownBlock ≠ some k ∧ ∀ (i : Nat) (v : Value), vs[i]? = some v → v.ownBlock ≠ some k
theorem OutAt.far {w' : World} {pv' ov : Value} {acc : List Int} (o : OutAt w B b gw pv vs ov acc) (h : RowAt w B b gw gb n pv vs P wt bh) (hf : Far w w' b pv) (hn : ∀ k, pv'.ownBlock = some k → pv.ownBlock = some k ∨ w.heap.size ≤ k) : OutAt w' B b gw pv' vs ov acc := by
  have lt := fun k (hk : ov.ownBlock = some k) => (World.ownsRow.lt o.own k hk).2
  have nb := fun k (hk : ov.ownBlock = some k) => (show k ≠ b from by obtain ⟨-, c, hc⟩ := own_type o.own hk; exact type_ne hc h.blk (by decide))
  refine ⟨own_move o.own (fun k hk => hf k (lt k hk) (nb k hk) (o.apart k hk).2.1), fun k hk => ⟨(o.apart k hk).1, fun e => ?_, (o.apart k hk).2.2⟩⟩
  rcases hn k e with e2 | e2
  · exact (o.apart k hk).2.1 e2
  · have := lt k hk; omega
theorem OutAt.wait {ov : Value} {acc : List Int} (o : OutAt w B b gw pv vs ov acc) (i : Nat) (x : Value) : OutAt (w.setCell ⟨gw, i, none⟩ x) B b gw pv vs ov acc :=
  ⟨own_move o.own (fun k hk => heap_setCell_other w ⟨gw, i, none⟩ k x (o.apart k hk).1), o.apart⟩
theorem OutAt.app {w' : World} {ov ov' : Value} {acc acc' : List Int} (o : OutAt w B b gw pv vs ov acc) (h : RowAt w B b gw gb n pv vs P wt bh) (hg : w.grownBy w' ov.ownBlock) {H : Nat} (hH : w.heap.size ≤ H)
    (ho : w'.ownsRow B 3 1 ov' acc'.length (intCells acc')) (hv : ov'.ownBlock = ov.ownBlock ∨ ov'.ownBlock = some H) : OutAt w' B b gw pv vs ov' acc' ∧ RowAt w' B b gw gb n pv vs P wt bh ∧ Below B w w' := by
  obtain ⟨l1, l2, l3⟩ := h.lts
  have nt : ∀ k, ov.ownBlock = some k → k ≠ b ∧ k ≠ gb := fun k hk => by
    obtain ⟨-, c, hc⟩ := own_type o.own hk
    obtain ⟨-, c2, h2⟩ := h.gb_type
    exact ⟨type_ne hc h.blk (by decide), type_ne hc h2 (by decide)⟩
  refine ⟨⟨ho, fun k hk => ?_⟩, ⟨(hg.block b l1 (fun e => (nt b e.symm).1 rfl)).trans h.blk, h.low, own_move h.places (fun k hk => hg.block k (h.pne hk).2.1 (fun e => (o.apart k e.symm).2.1 hk)), own_move h.waits (fun k hk => ?_), own_move h.behind (fun k hk => ?_), h.len,
    fun i v l hv2 hl => own_move (h.own i v l hv2 hl) (fun k hk => hg.block k (h.vne hv2 hk).2.1 (fun e => (o.apart k e.symm).2.2 i v hv2 hk)), h.apart, h.pw, h.vw, h.vp⟩, Below.grown (Below.refl B w) hg (by have := h.low; omega) (fun k hk => (World.ownsRow.lt o.own k hk).1)⟩
  · rcases hv with e | e
    · rw [e] at hk; exact o.apart k hk
    · rw [e] at hk
      simp at hk
      subst hk
      exact ⟨by omega, fun e2 => by have := (h.pne e2).2.1; omega, fun i v hv2 e2 => by have := (h.vne hv2 e2).2.1; omega⟩
  · simp [Value.ownBlock] at hk; subst hk
    exact hg.block gw l2 (fun e => (o.apart gw e.symm).1 rfl)
  · simp [Value.ownBlock] at hk; subst hk
    exact hg.block gb l3 (fun e => (nt gb e.symm).2 rfl)
end
theorem startE_zero (i : Nat) (xs : List Int) : startE i (0 :: xs) [] = startE (i + 1) xs [(i : Int)] := by simp [startE]
theorem startE_two (i : Nat) (xs : List Int) (p : Int) (ps : List Int) : startE i (0 :: xs) (p :: ps) = none := by simp [startE]
theorem startE_more {x : Int} (h : x ≠ 0) (i : Nat) (xs P : List Int) : startE i (x :: xs) P = startE (i + 1) xs P := by simp [startE, h]
theorem startE_end (i : Nat) (P : List Int) : startE i [] P = some P := by simp [startE]
theorem ordE_end (n : Nat) (bh : List (List Int)) (k : Nat) (wt acc : List Int) : ordE n bh (k + 1) [] wt acc = some acc := by simp [ordE]
theorem ordE_two (n : Nat) (bh : List (List Int)) (k : Nat) (x y : Int) (zs wt acc : List Int) : ordE n bh (k + 1) (x :: y :: zs) wt acc = none := by simp [ordE]
theorem ordE_one {n : Nat} {bh : List (List Int)} {k : Nat} {x : Int} {wt acc out : List Int} (h : ordE n bh (k + 1) [x] wt acc = some out) :
    ∃ (y : Nat) (l wt' P' : List Int), x = (y : Int) ∧ y < n ∧ bh[y]? = some l ∧ behE n l wt [] = some (wt', P') ∧ ordE n bh k P' wt' (acc ++ [(y : Int)]) = some out := by
  unfold ordE at h
  by_cases c : x < 0 ∨ (n : Int) ≤ x
  · simp [c] at h
  · rw [if_neg c] at h
    obtain ⟨y, rfl⟩ : ∃ y : Nat, x = (y : Int) := ⟨x.toNat, by omega⟩
    rw [Int.toNat_natCast] at h
    cases hb : bh[y]? with
    | none => rw [hb] at h; cases h
    | some l =>
      rw [hb] at h
      dsimp only at h
      cases he : behE n l wt [] with
      | none => rw [he] at h; cases h
      | some q =>
        rw [he] at h
        exact ⟨y, l, q.1, q.2, rfl, by omega, hb, he, h⟩
theorem behE_cons {n : Nat} {p : Int} {ps wt P wtf Pf : List Int} (h : behE n (p :: ps) wt P = some (wtf, Pf)) :
    ∃ (y : Nat) (x : Int), p = (y : Int) ∧ y < n ∧ wt[y]? = some x ∧ 1 ≤ x ∧ x ≤ 1000000 ∧ ((x = 1 ∧ P = [] ∧ behE n ps (wt.set y 0) [(y : Int)] = some (wtf, Pf)) ∨ (x ≠ 1 ∧ behE n ps (wt.set y (x - 1)) P = some (wtf, Pf))) := by
  unfold behE at h
  by_cases c : p < 0 ∨ (n : Int) ≤ p
  · simp [c] at h
  · rw [if_neg c] at h
    obtain ⟨y, rfl⟩ : ∃ y : Nat, p = (y : Int) := ⟨p.toNat, by omega⟩
    rw [Int.toNat_natCast] at h
    cases hw : wt[y]? with
    | none => rw [hw] at h; cases h
    | some x =>
      rw [hw] at h
      by_cases cx : x < 1 ∨ 1000000 < x
      · simp [cx] at h
      · simp only [if_neg cx] at h
        by_cases c1 : x = 1
        · rw [if_pos c1] at h
          match P, h with
          | [], h => exact ⟨y, x, rfl, by omega, hw, by omega, by omega, .inl ⟨c1, rfl, h⟩⟩
          | _ :: _, h => cases h
        · rw [if_neg c1] at h
          exact ⟨y, x, rfl, by omega, hw, by omega, by omega, .inr ⟨c1, h⟩⟩
theorem app_after {w w5 : World} {B b gw gb n g5 c5 uc : Nat} {uo : Option Addr} {pv : Value} {vs : List Value} {P wt acc : List Int} {bh : List (List Int)} {y : Int} {O : Obj} (o : OutAt w B b gw pv vs (.slice uo acc.length uc) acc) (h : RowAt w B b gw gb n pv vs P wt bh)
    (hg : (w.alloc O).grownBy w5 (Value.slice uo acc.length uc).ownBlock) (ho : w5.ownsRow B 3 1 (.slice (some ⟨g5, 0, none⟩) (acc.length + 1) c5) (acc.length + 1) (intCells acc ++ [.int .i64 y])) (hat : (Value.slice uo acc.length uc).ownBlock = some g5 ∨ g5 = w.heap.size + 1) :
    OutAt w5 B b gw pv vs (.slice (some ⟨g5, 0, none⟩) (acc.length + 1) c5) (acc ++ [y]) ∧ RowAt w5 B b gw gb n pv vs P wt bh ∧ Below B w w5 := by
  refine OutAt.app o h (grown_trans (World.grownBy_alloc w O _) hg) (H := w.heap.size + 1) (Nat.le_succ _) ?_ ?_
  · rw [List.length_append, intCells_app]; exact ho
  · rcases hat with h | h
    · exact .inl h.symm
    · exact .inr (by rw [h]; rfl)
theorem RowAt.vshape {w : World} {B b gw gb n y : Nat} {pv : Value} {vs : List Value} {P wt l : List Int} {bh : List (List Int)} (h : RowAt w B b gw gb n pv vs P wt bh) (hl : bh[y]? = some l) :
    ∃ ao cap, vs[y]? = some (.slice ao l.length cap) := by
  have hlt : y < vs.length := by have := (List.getElem?_eq_some_iff.1 hl).1; have := h.vlen; have := h.len; omega
  have ho := h.own y vs[y] l (List.getElem?_eq_getElem hlt) hl
  rcases ho.2 with ⟨e, h0⟩ | ⟨g, cap, cur, e, _⟩
  · exact ⟨_, _, by rw [List.getElem?_eq_getElem hlt, e, h0]⟩
  · exact ⟨_, _, by rw [List.getElem?_eq_getElem hlt, e]⟩
theorem RowAt.vcell {w : World} {B b gw gb n y cap : Nat} {ao : Option Addr} {pv : Value} {vs : List Value} {P wt l : List Int} {bh : List (List Int)} (h : RowAt w B b gw gb n pv vs P wt bh) (hl : bh[y]? = some l) (hv : vs[y]? = some (.slice ao l.length cap)) {q : Nat} {x : Int} (hx : l[q]? = some x) :
    ∃ g, ao = some ⟨g, 0, none⟩ ∧ w.cell? ⟨g, q, none⟩ = some (.int .i64 x) := by
  have ho := h.own y _ l hv hl
  have hq := (List.getElem?_eq_some_iff.1 hx).1
  rcases ho.2 with ⟨e, h0⟩ | ⟨g, cap', cur, e, _⟩
  · omega
  · simp only [Value.slice.injEq] at e
    obtain ⟨rfl, -, rfl⟩ := e
    refine ⟨g, rfl, ?_⟩
    rw [World.ownsRow.cellAt ho q (by omega)]
    simp [intCells, hx]
theorem RowAt.blen {w : World} {B b gw gb n y : Nat} {pv : Value} {vs : List Value} {P wt l : List Int} {bh : List (List Int)} (h : RowAt w B b gw gb n pv vs P wt bh) (hl : bh[y]? = some l) : l.length ≤ maxLen := by
  have hlt : y < vs.length := by have := (List.getElem?_eq_some_iff.1 hl).1; have := h.vlen; have := h.len; omega
  have ho := h.own y vs[y] l (List.getElem?_eq_getElem hlt) hl
  rcases ho.2 with ⟨e, h0⟩ | ⟨g, cap, cur, e, _, _, h1, h2, _⟩
  · omega
  · omega
def Ord1 (w : World) (B b gw gb n : Nat) (vs : List Value) (wt : List Int) (bh : List (List Int)) (P0 : List Int) (m : Nat) (iv : Value) (wr : World) : Prop :=
  ∃ (j : Nat) (pv : Value) (P : List Int), iv = .int .i64 j ∧ n - j ≤ m ∧ j ≤ n ∧ RowAt wr B b gw gb n pv vs P wt bh ∧ Below B w wr ∧ startE j (wt.drop j) P = some P0
def Ord2 (w : World) (B b gw gb n : Nat) (vs : List Value) (bh : List (List Int)) (out : List Int) (m : Nat) (ov : Value) (wr : World) : Prop :=
  ∃ (pv : Value) (P wt acc : List Int), RowAt wr B b gw gb n pv vs P wt bh ∧ OutAt wr B b gw pv vs ov acc ∧ acc.length + m ≤ 1000000 ∧ Below B w wr ∧ ordE n bh m P wt acc = some out
def Ord3 (w : World) (B b gw gb n : Nat) (vs : List Value) (bh : List (List Int)) (ov : Value) (acc l wtf Pf : List Int) (m : Nat) (iv : Value) (wr : World) : Prop :=
  ∃ (q : Nat) (pv : Value) (P wt : List Int), iv = .int .i64 q ∧ l.length - q ≤ m ∧ q ≤ l.length ∧ RowAt wr B b gw gb n pv vs P wt bh ∧ OutAt wr B b gw pv vs ov acc ∧ Below B w wr ∧ behE n (l.drop q) wt P = some (wtf, Pf)
theorem drop_cons {l : List Int} {j : Nat} {x : Int} (h : l[j]? = some x) : l.drop j = x :: l.drop (j + 1) := by
  obtain ⟨h1, h2⟩ := List.getElem?_eq_some_iff.1 h
  rw [← h2]
  exact List.drop_eq_getElem_cons h1
section
variable (w : World)
set_option maxHeartbeats 2000000 in
set_option maxRecDepth 20000 in
theorem porder (B b gw gb n : Nat) (pv : Value) (vs : List Value) (wt : List Int) (bh : List (List Int)) (h : RowAt w B b gw gb n pv vs [] wt bh) (hn : n ≤ 1000)
    (P0 out : List Int) (fuel : Nat) (h1 : startE 0 wt [] = some P0) (h2 : ordE n bh fuel P0 wt [] = some out) (hfu : fuel ≤ 1000000) :
    Calls Tryz.prog 20 #[.pointer (some ⟨b, 0, none⟩)] w fun e w' => ∃ v, e = .returned v ∧ Below B w w' ∧ w'.ownsRow B 3 1 v out.length (intCells out) := by
  have H := Lib.hid h
  have H1 := Lib.hid h1
  have H2 := Lib.hid h2
  obtain ⟨i0, hi0, hz0, hz1, hz2⟩ := info_parts info_int
  obtain ⟨⟨b0, b1, b2⟩, x0, x1, x2⟩ := h.cells
  have hta : ∀ (x : Int) (W : World), (Instr.typeAssert (.iface 3 (.int .i64 x)) 20 3 false).run Tryz.prog W = .ok (.int .i64 x) W := fun x W => by kernel_rfl
  clear h h1 h2
  go_enter Tryz.func20, Tryz.ntmps20
  go_wp2_with fail
  clear b0 b1 b2 x0 x1 x2
  go_loopg [14] n (fun m iv wr => Ord1 w B b gw gb n vs wt bh P0 m iv wr)
  case atStart => exact ⟨0, pv, [], rfl, Nat.le_refl _, Nat.zero_le _, H.out, Below.refl _ _, H1.out⟩
  case round =>
    obtain ⟨j, pv1, P1, rfl, hm, hj, hr, hb, hs⟩ := hrel
    have HM := Lib.hid hm
    have R := Lib.hid hr
    have BB := Lib.hid hb
    clear hm hb
    by_cases hjl : j < n
    · obtain ⟨x, hx⟩ : ∃ x, wt[j]? = some x := ⟨_, List.getElem?_eq_getElem (by rw [hr.wlen]; exact hjl)⟩
      obtain ⟨cx, fx⟩ := hr.wcell hx
      rw [drop_cons hx] at hs
      clear hr hx
      by_cases hx0 : x = 0
      · subst hx0
        match P1, R, hs with
        | [], R, hs =>
          rw [startE_zero] at hs
          have S := Lib.hid hs
          clear hs
          go_wp2_with fail
          refine (hpush wr B b gw gb n pv1 vs wt bh R.out j).mono ?_
          rintro e w2 ⟨rfl, hb2, -, g, cap, -, hr2⟩
          have R2 := Lib.hid hr2
          have B2 := Lib.hid hb2
          clear hr2 hb2
          go_wp2_with fail
          go_roundg (n - (j + 1))
          case rel => exact ⟨j + 1, _, _, rfl, Nat.le_refl _, hjl, R2.out, BB.out.trans B2.out, S.out⟩
          case measure => have := HM.out; omega
        | _ :: _, _, hs => rw [startE_two] at hs; cases hs
      · rw [startE_more hx0] at hs
        have g0 : (x == 0) = false := by simpa using hx0
        have S := Lib.hid hs
        clear hs hx0
        go_wp2_with fail
        go_roundg (n - (j + 1))
        case rel => exact ⟨j + 1, _, _, rfl, Nat.le_refl _, hjl, R.out, BB.out, S.out⟩
        case measure => have := HM.out; omega
    · have hz : j = n := by omega
      subst hz
      have S := Lib.hid (show P1 = P0 by
        rw [List.drop_of_length_le (by rw [hr.wlen]; exact Nat.le_refl _), startE_end] at hs
        exact Option.some.inj hs)
      clear hs hr
      have O0 := Lib.hid (show OutAt wr B b gw pv1 vs (.slice none 0 0) [] from ⟨World.ownsRow_nil _ _ _ _, fun k hk => by simp [Value.ownBlock] at hk⟩)
      have H2' := Lib.hid (show ordE j bh fuel P1 wt [] = some out by rw [S.out]; exact H2.out)
      go_wp2_with fail
      go_loopg [3] fuel (fun m ov wx => Ord2 w B b gw gb j vs bh out m ov wx)
      case atStart => exact ⟨pv1, P1, wt, [], R.out, O0.out, (by simpa using hfu), BB.out, H2'.out⟩
      case round =>
        obtain ⟨pv2, P2, wt2, acc, hr2, ho2, ha2, hb2, he2⟩ := hrel
        have R2 := Lib.hid hr2
        have O2 := Lib.hid ho2
        have BB2 := Lib.hid hb2
        have A2 := Lib.hid (show acc.length ≤ 1000000 by omega)
        have AL := Lib.hid ha2
        obtain ⟨⟨b0, b1, b2⟩, x0, x1, x2⟩ := hr2.cells
        obtain ⟨pao, pcap, rfl⟩ := hr2.pshape
        clear hr2 ho2 hb2 ha2
        cases gk with
        | zero => unfold ordE at he2; cases he2
        | succ k =>
          obtain _ | ⟨x, _ | ⟨x2, xs⟩⟩ := P2
          · rw [ordE_end] at he2
            have E := Lib.hid (Option.some.inj he2)
            clear he2
            go_wp2_with fail
            refine (plen wr _ _ _).mono ?_
            rintro e w3 ⟨rfl, rfl⟩
            go_wp2_with fail
            go_ret
            exact ⟨_, rfl, BB2.out, by rw [← E.out]; exact O2.out.own⟩
          · obtain ⟨y, l, wtf, Pf, rfl, hy, hl, hbe, hoe⟩ := ordE_one he2
            have L := Lib.hid hl
            have BE := Lib.hid hbe
            have OE := Lib.hid hoe
            obtain ⟨g, cap, hpe⟩ := R2.out.pone
            simp only [List.length_cons, List.length_nil, Nat.zero_add, Value.slice.injEq] at hpe
            obtain ⟨rfl, -, rfl⟩ := hpe
            simp only [List.length_cons, List.length_nil, Nat.zero_add] at b0 R2 O2
            have R3 := Lib.hid (show RowAt wr B b gw gb j (.slice (some ⟨g, 0, none⟩) 1 pcap) vs [(y : Int)] wt2 bh from R2.out)
            have O3 := Lib.hid (show OutAt wr B b gw (.slice (some ⟨g, 0, none⟩) 1 pcap) vs u3 acc from O2.out)
            obtain ⟨uo, uc, rfl⟩ : ∃ ao cap, u3 = .slice ao acc.length cap := by
              rcases O3.out.own.2 with ⟨rfl, h0⟩ | ⟨g, cap, cur, rfl, _⟩
              · rw [h0]; exact ⟨_, _, rfl⟩
              · exact ⟨_, _, rfl⟩
            clear he2 hl hbe hoe R2 O2 x0 x1 x2 b1 b2
            go_wp2_with fail
            refine (plen wr _ _ _).mono ?_
            rintro e w3 ⟨rfl, rfl⟩
            go_wp2_with fail
            refine (hpop wr B b gw gb j g pcap vs y wt2 bh R3.out).mono ?_
            rintro e w3 ⟨rfl, hb3, hf3, hr3⟩
            have O4 := Lib.hid (OutAt.far O3.out R3.out hf3 (pv' := .slice (some ⟨g, 0, none⟩) 0 pcap) (fun k e => .inl e))
            have R4 := Lib.hid hr3
            have B4 := Lib.hid (BB2.out.trans hb3)
            have LW := Lib.hid hr3.low
            have LT := Lib.hid hr3.lts
            obtain ⟨bo, bc, hv⟩ := hr3.vshape L.out
            have HV := Lib.hid hv
            clear hv
            have q0 : (0 : Int) ≤ (y : Int) := by omega
            have q1 : (y : Int) < (j : Int) := by omega
            clear hb3 hf3 hr3 b0
            go_wp2_with (at_builtin; refine wpList_append_lies _ rfl _ _ 26 rfl B 3 i0 (.int .i64 0) 1 8 Tryz.underlying26 hi0 hz0 hz1 hz2 rfl (by decide) (.slice uo acc.length uc) acc.length (intCells acc) rfl (World.ownsRow.alloc O4.out.own _) ⟨w3.heap.size, 0, none⟩ 1 1 [.int .i64 (y : Int)] rfl rfl (by exact news_new w3 #[.int .i64 (y : Int)] 3) (by simp [Value.oneCell']) (by decide) (by have := A2.out; unfold maxLen; omega) (by have := A2.out; omega) (by have := LW.out; have := LT.out; simp; omega) (w3.heap.size + 1) (by simp) ?_; intro g5 c5 w5 hown5 hgrow5 hat5 hlt5; obtain ⟨o6, r6, b6⟩ := app_after O4.out R4.out hgrow5 hown5 hat5; have O6 := Lib.hid o6; have R6 := Lib.hid r6; have B6 := Lib.hid (B4.out.trans b6); obtain ⟨⟨k0, k1, k2⟩, y0, y1, y2⟩ := r6.cells; obtain ⟨kv, -⟩ := r6.bcell HV.out; clear hown5 hgrow5 hat5 hlt5 o6 r6 b6)
            go_loopg [49] l.length (fun m iv wx => Ord3 w B b gw gb j vs bh (.slice (some ⟨g5, 0, none⟩) (acc.length + 1) c5) (acc ++ [(y : Int)]) l wtf Pf m iv wx)
            case atStart => exact ⟨0, _, _, _, rfl, Nat.le_refl _, Nat.zero_le _, R6.out, O6.out, B6.out, BE.out⟩
            case round =>
              obtain ⟨q, pv7, P7, wt7, rfl, hm7, hq7, hr7, ho7, hb7, he7⟩ := hrel
              have M7 := Lib.hid hm7
              have R7 := Lib.hid hr7
              have O7 := Lib.hid ho7
              have B7 := Lib.hid hb7
              obtain ⟨⟨k0, k1, k2⟩, y0, y1, y2⟩ := hr7.cells
              clear hm7 hr7 ho7 hb7
              by_cases hql : q < l.length
              · have hq9 : (q : Int) + 1 ≤ 9223372036854775807 := by
                  have := R7.out.blen L.out
                  unfold maxLen at this
                  omega
                obtain ⟨z, hz⟩ : ∃ z, l[q]? = some z := ⟨_, List.getElem?_eq_getElem hql⟩
                rw [drop_cons hz] at he7
                obtain ⟨p, x, rfl, hp, hx, hx1, hx2, hcase⟩ := behE_cons he7
                obtain ⟨gv, rfl, cz⟩ := R7.out.vcell L.out HV.out hz
                obtain ⟨cx, fx⟩ := R7.out.wcell hx
                obtain ⟨rs, bs⟩ := R7.out.setWait p (x - 1)
                have RS := Lib.hid rs
                have BS := Lib.hid (B7.out.trans bs)
                have OS := Lib.hid (O7.out.wait p (.int .i64 (x - 1)))
                have hwr : wrap64 (x - 1) = x - 1 := by unfold wrap64; omega
                have p0 : (0 : Int) ≤ (p : Int) := by omega
                have p1 : (p : Int) < (j : Int) := by omega
                obtain ⟨⟨s0, s1, s2⟩, -, -, -⟩ := rs.cells
                have cs : (wr.setCell ⟨gw, p, none⟩ (.int .i64 (x - 1))).cell? ⟨gw, p, none⟩ = some (.int .i64 (x - 1)) := World.cell?_setCell_same wr ⟨gw, p, none⟩ _ cx
                clear he7 hz hx rs bs
                rcases hcase with ⟨hx3, rfl, hbe7⟩ | ⟨hx3, hbe7⟩
                · have gz : (x - 1 == 0) = true := by simp; omega
                  have BE7 := Lib.hid (show behE j (l.drop (q + 1)) (wt7.set p (x - 1)) [(p : Int)] = some (wtf, Pf) by rw [show x - 1 = 0 by omega]; exact hbe7)
                  clear hx3 hbe7 hx1 hx2
                  go_wp2_with fail
                  refine (hpush _ B b gw gb j pv7 vs _ bh RS.out p).mono ?_
                  rintro e w8 ⟨rfl, hb8, hf8, g8, c8, hg8, hr8⟩
                  have O8 := Lib.hid (OutAt.far OS.out RS.out hf8 (pv' := .slice (some ⟨g8, 0, none⟩) 1 c8) (fun k e => by
                    have e2 : g8 = k := by simpa [Value.ownBlock] using e
                    rw [← e2]; exact hg8))
                  have R8 := Lib.hid hr8
                  have B8 := Lib.hid (BS.out.trans hb8)
                  clear hb8 hf8 hg8 hr8
                  go_wp2_with fail
                  go_roundg (l.length - (q + 1))
                  case rel => exact ⟨q + 1, _, _, _, rfl, Nat.le_refl _, hql, R8.out, O8.out, B8.out, BE7.out⟩
                  case measure => have := M7.out; omega
                · have gz : (x - 1 == 0) = false := by simp; omega
                  have BE7 := Lib.hid hbe7
                  clear hx3 hbe7 hx1 hx2
                  go_wp2_with fail
                  go_roundg (l.length - (q + 1))
                  case rel => exact ⟨q + 1, _, _, _, rfl, Nat.le_refl _, hql, RS.out, OS.out, BS.out, BE7.out⟩
                  case measure => have := M7.out; omega
              · have hz : q = l.length := by omega
                subst hz
                have E7 := Lib.hid (show ordE j bh k P7 wt7 (acc ++ [(y : Int)]) = some out by
                  rw [List.drop_length] at he7
                  have e := Option.some.inj (show some (wt7, P7) = some (wtf, Pf) from he7)
                  simp only [Prod.mk.injEq] at e
                  rw [e.1, e.2]; exact OE.out)
                clear he7
                go_wp2_with fail
                go_roundg k
                case rel => exact ⟨pv7, P7, wt7, acc ++ [(y : Int)], R7.out, O7.out, (by have := AL.out; simp; omega), B7.out, E7.out⟩
                case measure => omega
          · rw [ordE_two] at he2; cases he2
end
end Go.Proofs.YtdaphajnioiakaaGreatDoor
