/- Package refs: Order, as long as no two places could come next at once. -/
import Derived.Test.YtdaphajnioiakaaGreatDoorRcH
import Derived.Test.YtdaphajnioiakaaGreatDoorRcB
namespace Go.Proofs.YtdaphajnioiakaaGreatDoor
open Go.RowKit
set_option linter.unusedVariables false
set_option linter.unusedSimpArgs false
/-- The places that could come first, if they are one at most. -/
def startE : Nat → List Int → List Int → Option (List Int)
  | _, [], P => some P
  | i, x :: xs, P => if x = 0 then (match P with | [] => startE (i + 1) xs [(i : Int)] | _ :: _ => none) else startE (i + 1) xs P
/-- One place has come: those behind it. -/
def behE (n : Nat) : List Int → List Int → List Int → Option (List Int × List Int)
  | [], wt, P => some (wt, P)
  | p :: ps, wt, P => if p < 0 ∨ (n : Int) ≤ p then none else match wt[p.toNat]? with
    | none => none
    | some x => if x < 1 ∨ 1000000 < x then none else if x = 1 then (match P with | [] => behE n ps (wt.set p.toNat 0) [p] | _ :: _ => none) else behE n ps (wt.set p.toNat (x - 1)) P
def ordE (n : Nat) (bh : List (List Int)) : Nat → List Int → List Int → List Int → Option (List Int)
  | 0, _, _, _ => none
  | _ + 1, [], _, acc => some acc
  | k + 1, [x], wt, acc => if x < 0 ∨ (n : Int) ≤ x then none else match bh[x.toNat]? with
    | none => none
    | some l => match behE n l wt [] with
      | none => none
      | some (wt', P') => ordE n bh k P' wt' (acc ++ [x])
  | _ + 1, _ :: _ :: _, _, _ => none
section
variable {w : World} {B b gw gb n : Nat} {pv : Value} {vs : List Value} {P wt : List Int} {bh : List (List Int)}
theorem RowAt.pshape (h : RowAt w B b gw gb n pv vs P wt bh) : ∃ ao cap, pv = .slice ao P.length cap := by
  rcases h.places.2 with ⟨rfl, h0⟩ | ⟨g, cap, cur, rfl, _⟩
  · rw [h0]; exact ⟨_, _, rfl⟩
  · exact ⟨_, _, rfl⟩
theorem RowAt.pone {x : Int} (h : RowAt w B b gw gb n pv vs [x] wt bh) : ∃ g cap, pv = .slice (some ⟨g, 0, none⟩) 1 cap := by
  rcases h.places.2 with ⟨rfl, h0⟩ | ⟨g, cap, cur, rfl, _⟩
  · simp at h0
  · exact ⟨_, _, rfl⟩
/-- The places that have come, beside the row. -/
structure OutAt (w : World) (B b gw : Nat) (pv : Value) (vs : List Value) (ov : Value) (acc : List Int) : Prop where
  own : w.ownsRow B 3 1 ov acc.length (intCells acc)
  apart : ∀ k, ov.ownBlock = some k → k ≠ gw ∧ pv.ownBlock ≠ some k ∧ ∀ (i : Nat) (v : Value), vs[i]? = some v → v.ownBlock ≠ some k
theorem OutAt.far {w' : World} {pv' ov : Value} {acc : List Int} (o : OutAt w B b gw pv vs ov acc) (h : RowAt w B b gw gb n pv vs P wt bh) (hf : Far w w' b pv) (hn : ∀ k, pv'.ownBlock = some k → pv.ownBlock = some k ∨ w.heap.size ≤ k) : OutAt w' B b gw pv' vs ov acc := by
  have lt := fun k (hk : ov.ownBlock = some k) => (World.ownsRow.lt o.own k hk).2
  have nb := fun k (hk : ov.ownBlock = some k) => (show k ≠ b from by obtain ⟨-, c, hc⟩ := own_type o.own hk; exact type_ne hc h.blk (by decide))
  refine ⟨own_move o.own (fun k hk => hf k (lt k hk) (nb k hk) (o.apart k hk).2.1), fun k hk => ⟨(o.apart k hk).1, fun e => ?_, (o.apart k hk).2.2⟩⟩
  rcases hn k e with e2 | e2
  · exact (o.apart k hk).2.1 e2
  · have := lt k hk; omega
theorem OutAt.wait {ov : Value} {acc : List Int} (o : OutAt w B b gw pv vs ov acc) (i : Nat) (x : Value) : OutAt (w.setCell ⟨gw, i, none⟩ x) B b gw pv vs ov acc :=
  ⟨own_move o.own (fun k hk => heap_setCell_other w ⟨gw, i, none⟩ k x (o.apart k hk).1), o.apart⟩
theorem OutAt.app {w' : World} {ov ov' : Value} {acc acc' : List Int} (o : OutAt w B b gw pv vs ov acc) (h : RowAt w B b gw gb n pv vs P wt bh) (hg : w.grownBy w' ov.ownBlock) {H : Nat} (hH : w.heap.size ≤ H)
    (ho : w'.ownsRow B 3 1 ov' acc'.length (intCells acc')) (hv : ov'.ownBlock = ov.ownBlock ∨ ov'.ownBlock = some H) : OutAt w' B b gw pv vs ov' acc' ∧ RowAt w' B b gw gb n pv vs P wt bh ∧ Below B w w' := by
  obtain ⟨l1, l2, l3⟩ := h.lts
  have nt : ∀ k, ov.ownBlock = some k → k ≠ b ∧ k ≠ gb := fun k hk => by
    obtain ⟨-, c, hc⟩ := own_type o.own hk
    obtain ⟨-, c2, h2⟩ := h.gb_type
    exact ⟨type_ne hc h.blk (by decide), type_ne hc h2 (by decide)⟩
  refine ⟨⟨ho, fun k hk => ?_⟩, ⟨(hg.block b l1 (fun e => (nt b e.symm).1 rfl)).trans h.blk, h.low, own_move h.places (fun k hk => hg.block k (h.pne hk).2.1 (fun e => (o.apart k e.symm).2.1 hk)), own_move h.waits (fun k hk => ?_), own_move h.behind (fun k hk => ?_), h.len,
    fun i v l hv2 hl => own_move (h.own i v l hv2 hl) (fun k hk => hg.block k (h.vne hv2 hk).2.1 (fun e => (o.apart k e.symm).2.2 i v hv2 hk)), h.apart, h.pw, h.vw, h.vp⟩, Below.grown (Below.refl B w) hg (by have := h.low; omega) (fun k hk => (World.ownsRow.lt o.own k hk).1)⟩
  · rcases hv with e | e
    · rw [e] at hk; exact o.apart k hk
    · rw [e] at hk
      simp at hk
      subst hk
      exact ⟨by omega, fun e2 => by have := (h.pne e2).2.1; omega, fun i v hv2 e2 => by have := (h.vne hv2 e2).2.1; omega⟩
  · simp [Value.ownBlock] at hk; subst hk
    exact hg.block gw l2 (fun e => (o.apart gw e.symm).1 rfl)
  · simp [Value.ownBlock] at hk; subst hk
    exact hg.block gb l3 (fun e => (nt gb e.symm).2 rfl)
end
theorem startE_zero (i : Nat) (xs : List Int) : startE i (0 :: xs) [] = startE (i + 1) xs [(i : Int)] := by simp [startE]
theorem startE_two (i : Nat) (xs : List Int) (p : Int) (ps : List Int) : startE i (0 :: xs) (p :: ps) = none := by simp [startE]
theorem startE_more {x : Int} (h : x ≠ 0) (i : Nat) (xs P : List Int) : startE i (x :: xs) P = startE (i + 1) xs P := by simp [startE, h]
theorem startE_end (i : Nat) (P : List Int) : startE i [] P = some P := by simp [startE]
theorem ordE_end (n : Nat) (bh : List (List Int)) (k : Nat) (wt acc : List Int) : ordE n bh (k + 1) [] wt acc = some acc := by simp [ordE]
theorem ordE_two (n : Nat) (bh : List (List Int)) (k : Nat) (x y : Int) (zs wt acc : List Int) : ordE n bh (k + 1) (x :: y :: zs) wt acc = none := by simp [ordE]
theorem ordE_one {n : Nat} {bh : List (List Int)} {k : Nat} {x : Int} {wt acc out : List Int} (h : ordE n bh (k + 1) [x] wt acc = some out) :
    ∃ (y : Nat) (l wt' P' : List Int), x = (y : Int) ∧ y < n ∧ bh[y]? = some l ∧ behE n l wt [] = some (wt', P') ∧ ordE n bh k P' wt' (acc ++ [(y : Int)]) = some out := by
  unfold ordE at h
  by_cases c : x < 0 ∨ (n : Int) ≤ x
  · simp [c] at h
  · rw [if_neg c] at h
    obtain ⟨y, rfl⟩ : ∃ y : Nat, x = (y : Int) := ⟨x.toNat, by omega⟩
    rw [Int.toNat_natCast] at h
    cases hb : bh[y]? with
    | none => rw [hb] at h; cases h
    | some l =>
      rw [hb] at h
      dsimp only at h
      cases he : behE n l wt [] with
      | none => rw [he] at h; cases h
      | some q =>
        rw [he] at h
        exact ⟨y, l, q.1, q.2, rfl, by omega, hb, he, h⟩
theorem behE_cons {n : Nat} {p : Int} {ps wt P wtf Pf : List Int} (h : behE n (p :: ps) wt P = some (wtf, Pf)) :
    ∃ (y : Nat) (x : Int), p = (y : Int) ∧ y < n ∧ wt[y]? = some x ∧ 1 ≤ x ∧ x ≤ 1000000 ∧ ((x = 1 ∧ P = [] ∧ behE n ps (wt.set y 0) [(y : Int)] = some (wtf, Pf)) ∨ (x ≠ 1 ∧ behE n ps (wt.set y (x - 1)) P = some (wtf, Pf))) := by
  unfold behE at h
  by_cases c : p < 0 ∨ (n : Int) ≤ p
  · simp [c] at h
  · rw [if_neg c] at h
    obtain ⟨y, rfl⟩ : ∃ y : Nat, p = (y : Int) := ⟨p.toNat, by omega⟩
    rw [Int.toNat_natCast] at h
    cases hw : wt[y]? with
    | none => rw [hw] at h; cases h
    | some x =>
      rw [hw] at h
      by_cases cx : x < 1 ∨ 1000000 < x
      · simp [cx] at h
      · simp only [if_neg cx] at h
        by_cases c1 : x = 1
        · rw [if_pos c1] at h
          match P, h with
          | [], h => exact ⟨y, x, rfl, by omega, hw, by omega, by omega, .inl ⟨c1, rfl, h⟩⟩
          | _ :: _, h => cases h
        · rw [if_neg c1] at h
          exact ⟨y, x, rfl, by omega, hw, by omega, by omega, .inr ⟨c1, h⟩⟩
theorem app_after {w w5 : World} {B b gw gb n g5 c5 uc : Nat} {uo : Option Addr} {pv : Value} {vs : List Value} {P wt acc : List Int} {bh : List (List Int)} {y : Int} {O : Obj} (o : OutAt w B b gw pv vs (.slice uo acc.length uc) acc) (h : RowAt w B b gw gb n pv vs P wt bh)
    (hg : (w.alloc O).grownBy w5 (Value.slice uo acc.length uc).ownBlock) (ho : w5.ownsRow B 3 1 (.slice (some ⟨g5, 0, none⟩) (acc.length + 1) c5) (acc.length + 1) (intCells acc ++ [.int .i64 y])) (hat : (Value.slice uo acc.length uc).ownBlock = some g5 ∨ g5 = w.heap.size + 1) :
    OutAt w5 B b gw pv vs (.slice (some ⟨g5, 0, none⟩) (acc.length + 1) c5) (acc ++ [y]) ∧ RowAt w5 B b gw gb n pv vs P wt bh ∧ Below B w w5 := by
  refine OutAt.app o h (grown_trans (World.grownBy_alloc w O _) hg) (H := w.heap.size + 1) (Nat.le_succ _) ?_ ?_
  · rw [List.length_append, intCells_app]; exact ho
  · rcases hat with h | h
    · exact .inl h.symm
    · exact .inr (by rw [h]; rfl)
theorem RowAt.vshape {w : World} {B b gw gb n y : Nat} {pv : Value} {vs : List Value} {P wt l : List Int} {bh : List (List Int)} (h : RowAt w B b gw gb n pv vs P wt bh) (hl : bh[y]? = some l) :
    ∃ ao cap, vs[y]? = some (.slice ao l.length cap) := by
  have hlt : y < vs.length := by have := (List.getElem?_eq_some_iff.1 hl).1; have := h.vlen; have := h.len; omega
  have ho := h.own y vs[y] l (List.getElem?_eq_getElem hlt) hl
  rcases ho.2 with ⟨e, h0⟩ | ⟨g, cap, cur, e, _⟩
  · exact ⟨_, _, by rw [List.getElem?_eq_getElem hlt, e, h0]⟩
  · exact ⟨_, _, by rw [List.getElem?_eq_getElem hlt, e]⟩
theorem RowAt.vcell {w : World} {B b gw gb n y cap : Nat} {ao : Option Addr} {pv : Value} {vs : List Value} {P wt l : List Int} {bh : List (List Int)} (h : RowAt w B b gw gb n pv vs P wt bh) (hl : bh[y]? = some l) (hv : vs[y]? = some (.slice ao l.length cap)) {q : Nat} {x : Int} (hx : l[q]? = some x) :
    ∃ g, ao = some ⟨g, 0, none⟩ ∧ w.cell? ⟨g, q, none⟩ = some (.int .i64 x) := by
  have ho := h.own y _ l hv hl
  have hq := (List.getElem?_eq_some_iff.1 hx).1
  rcases ho.2 with ⟨e, h0⟩ | ⟨g, cap', cur, e, _⟩
  · omega
  · simp only [Value.slice.injEq] at e
    obtain ⟨rfl, -, rfl⟩ := e
    refine ⟨g, rfl, ?_⟩
    rw [World.ownsRow.cellAt ho q (by omega)]
    simp [intCells, hx]
theorem RowAt.blen {w : World} {B b gw gb n y : Nat} {pv : Value} {vs : List Value} {P wt l : List Int} {bh : List (List Int)} (h : RowAt w B b gw gb n pv vs P wt bh) (hl : bh[y]? = some l) : l.length ≤ maxLen := by
  have hlt : y < vs.length := by have := (List.getElem?_eq_some_iff.1 hl).1; have := h.vlen; have := h.len; omega
  have ho := h.own y vs[y] l (List.getElem?_eq_getElem hlt) hl
  rcases ho.2 with ⟨e, h0⟩ | ⟨g, cap, cur, e, _, _, h1, h2, _⟩
  · omega
  · omega
def Ord1 (w : World) (B b gw gb n : Nat) (vs : List Value) (wt : List Int) (bh : List (List Int)) (P0 : List Int) (m : Nat) (iv : Value) (wr : World) : Prop :=
  ∃ (j : Nat) (pv : Value) (P : List Int), iv = .int .i64 j ∧ n - j ≤ m ∧ j ≤ n ∧ RowAt wr B b gw gb n pv vs P wt bh ∧ Below B w wr ∧ startE j (wt.drop j) P = some P0
def Ord2 (w : World) (B b gw gb n : Nat) (vs : List Value) (bh : List (List Int)) (out : List Int) (m : Nat) (ov : Value) (wr : World) : Prop :=
  ∃ (pv : Value) (P wt acc : List Int), RowAt wr B b gw gb n pv vs P wt bh ∧ OutAt wr B b gw pv vs ov acc ∧ acc.length + m ≤ 1000000 ∧ Below B w wr ∧ ordE n bh m P wt acc = some out
def Ord3 (w : World) (B b gw gb n : Nat) (vs : List Value) (bh : List (List Int)) (ov : Value) (acc l wtf Pf : List Int) (m : Nat) (iv : Value) (wr : World) : Prop :=
  ∃ (q : Nat) (pv : Value) (P wt : List Int), iv = .int .i64 q ∧ l.length - q ≤ m ∧ q ≤ l.length ∧ RowAt wr B b gw gb n pv vs P wt bh ∧ OutAt wr B b gw pv vs ov acc ∧ Below B w wr ∧ behE n (l.drop q) wt P = some (wtf, Pf)
theorem drop_cons {l : List Int} {j : Nat} {x : Int} (h : l[j]? = some x) : l.drop j = x :: l.drop (j + 1) := by
  obtain ⟨h1, h2⟩ := List.getElem?_eq_some_iff.1 h
  rw [← h2]
  exact List.drop_eq_getElem_cons h1
section
variable (w : World)
set_option maxHeartbeats 2000000 in
set_option maxRecDepth 20000 in
theorem porder (B b gw gb n : Nat) (pv : Value) (vs : List Value) (wt : List Int) (bh : List (List Int)) (h : RowAt w B b gw gb n pv vs [] wt bh) (hn : n ≤ 1000)
    (P0 out : List Int) (fuel : Nat) (h1 : startE 0 wt [] = some P0) (h2 : ordE n bh fuel P0 wt [] = some out) (hfu : fuel ≤ 1000000) :
    Calls Tryz.prog 20 #[.pointer (some ⟨b, 0, none⟩)] w fun e w' => ∃ v, e = .returned v ∧ Below B w w' ∧ w'.ownsRow B 3 1 v out.length (intCells out) := by
  have H := Lib.hid h
  have H1 := Lib.hid h1
  have H2 := Lib.hid h2
  obtain ⟨i0, hi0, hz0, hz1, hz2⟩ := info_parts info_int
  obtain ⟨⟨b0, b1, b2⟩, x0, x1, x2⟩ := h.cells
  have hta : ∀ (x : Int) (W : World), (Instr.typeAssert (.iface 3 (.int .i64 x)) 20 3 false).run Tryz.prog W = .ok (.int .i64 x) W := fun x W => by kernel_rfl
  clear h h1 h2
  go_enter Tryz.func20, Tryz.ntmps20
  go_wp2_with fail
  clear b0 b1 b2 x0 x1 x2
  go_loopg [14] n (fun m iv wr => Ord1 w B b gw gb n vs wt bh P0 m iv wr)
  case atStart => exact ⟨0, pv, [], rfl, Nat.le_refl _, Nat.zero_le _, H.out, Below.refl _ _, H1.out⟩
  case round =>
    obtain ⟨j, pv1, P1, rfl, hm, hj, hr, hb, hs⟩ := hrel
    have HM := Lib.hid hm
    have R := Lib.hid hr
    have BB := Lib.hid hb
    clear hm hb
    by_cases hjl : j < n
    · obtain ⟨x, hx⟩ : ∃ x, wt[j]? = some x := ⟨_, List.getElem?_eq_getElem (by rw [hr.wlen]; exact hjl)⟩
      obtain ⟨cx, fx⟩ := hr.wcell hx
      rw [drop_cons hx] at hs
      clear hr hx
      by_cases hx0 : x = 0
      · subst hx0
        match P1, R, hs with
        | [], R, hs =>
          rw [startE_zero] at hs
          have S := Lib.hid hs
          clear hs
          go_wp2_with fail
          refine (hpush wr B b gw gb n pv1 vs wt bh R.out j).mono ?_
          rintro e w2 ⟨rfl, hb2, -, g, cap, -, hr2⟩
          have R2 := Lib.hid hr2
          have B2 := Lib.hid hb2
          clear hr2 hb2
          go_wp2_with fail
          go_roundg (n - (j + 1))
          case rel => exact ⟨j + 1, _, _, rfl, Nat.le_refl _, hjl, R2.out, BB.out.trans B2.out, S.out⟩
          case measure => have := HM.out; omega
        | _ :: _, _, hs => rw [startE_two] at hs; cases hs
      · rw [startE_more hx0] at hs
        have g0 : (x == 0) = false := by simpa using hx0
        have S := Lib.hid hs
        clear hs hx0
        go_wp2_with fail
        go_roundg (n - (j + 1))
        case rel => exact ⟨j + 1, _, _, rfl, Nat.le_refl _, hjl, R.out, BB.out, S.out⟩
        case measure => have := HM.out; omega
    · have hz : j = n := by omega
      subst hz
      have S := Lib.hid (show P1 = P0 by
        rw [List.drop_of_length_le (by rw [hr.wlen]; exact Nat.le_refl _), startE_end] at hs
        exact Option.some.inj hs)
      clear hs hr
      have O0 := Lib.hid (show OutAt wr B b gw pv1 vs (.slice none 0 0) [] from ⟨World.ownsRow_nil _ _ _ _, fun k hk => by simp [Value.ownBlock] at hk⟩)
      have H2' := Lib.hid (show ordE j bh fuel P1 wt [] = some out by rw [S.out]; exact H2.out)
      go_wp2_with fail
      go_loopg [3] fuel (fun m ov wx => Ord2 w B b gw gb j vs bh out m ov wx)
      case atStart => exact ⟨pv1, P1, wt, [], R.out, O0.out, (by simpa using hfu), BB.out, H2'.out⟩
      case round =>
        obtain ⟨pv2, P2, wt2, acc, hr2, ho2, ha2, hb2, he2⟩ := hrel
        have R2 := Lib.hid hr2
        have O2 := Lib.hid ho2
        have BB2 := Lib.hid hb2
        have A2 := Lib.hid (show acc.length ≤ 1000000 by omega)
        have AL := Lib.hid ha2
        obtain ⟨⟨b0, b1, b2⟩, x0, x1, x2⟩ := hr2.cells
        obtain ⟨pao, pcap, rfl⟩ := hr2.pshape
        clear hr2 ho2 hb2 ha2
        cases gk with
        | zero => unfold ordE at he2; cases he2
        | succ k =>
          obtain _ | ⟨x, _ | ⟨x2, xs⟩⟩ := P2
          · rw [ordE_end] at he2
            have E := Lib.hid (Option.some.inj he2)
            clear he2
            go_wp2_with fail
            refine (plen wr _ _ _).mono ?_
            rintro e w3 ⟨rfl, rfl⟩
            go_wp2_with fail
            go_ret
            exact ⟨_, rfl, BB2.out, by rw [← E.out]; exact O2.out.own⟩
          · obtain ⟨y, l, wtf, Pf, rfl, hy, hl, hbe, hoe⟩ := ordE_one he2
            have L := Lib.hid hl
            have BE := Lib.hid hbe
            have OE := Lib.hid hoe
            obtain ⟨g, cap, hpe⟩ := R2.out.pone
            simp only [List.length_cons, List.length_nil, Nat.zero_add, Value.slice.injEq] at hpe
            obtain ⟨rfl, -, rfl⟩ := hpe
            simp only [List.length_cons, List.length_nil, Nat.zero_add] at b0 R2 O2
            have R3 := Lib.hid (show RowAt wr B b gw gb j (.slice (some ⟨g, 0, none⟩) 1 pcap) vs [(y : Int)] wt2 bh from R2.out)
            have O3 := Lib.hid (show OutAt wr B b gw (.slice (some ⟨g, 0, none⟩) 1 pcap) vs u3 acc from O2.out)
            obtain ⟨uo, uc, rfl⟩ : ∃ ao cap, u3 = .slice ao acc.length cap := by
              rcases O3.out.own.2 with ⟨rfl, h0⟩ | ⟨g, cap, cur, rfl, _⟩
              · rw [h0]; exact ⟨_, _, rfl⟩
              · exact ⟨_, _, rfl⟩
            clear he2 hl hbe hoe R2 O2 x0 x1 x2 b1 b2
            go_wp2_with fail
            refine (plen wr _ _ _).mono ?_
            rintro e w3 ⟨rfl, rfl⟩
            go_wp2_with fail
            refine (hpop wr B b gw gb j g pcap vs y wt2 bh R3.out).mono ?_
            rintro e w3 ⟨rfl, hb3, hf3, hr3⟩
            have O4 := Lib.hid (OutAt.far O3.out R3.out hf3 (pv' := .slice (some ⟨g, 0, none⟩) 0 pcap) (fun k e => .inl e))
            have R4 := Lib.hid hr3
            have B4 := Lib.hid (BB2.out.trans hb3)
            have LW := Lib.hid hr3.low
            have LT := Lib.hid hr3.lts
            obtain ⟨bo, bc, hv⟩ := hr3.vshape L.out
            have HV := Lib.hid hv
            clear hv
            have q0 : (0 : Int) ≤ (y : Int) := by omega
            have q1 : (y : Int) < (j : Int) := by omega
            clear hb3 hf3 hr3 b0
            go_wp2_with (at_builtin; refine wpList_append_lies _ rfl _ _ 26 rfl B 3 i0 (.int .i64 0) 1 8 Tryz.underlying26 hi0 hz0 hz1 hz2 rfl (by decide) (.slice uo acc.length uc) acc.length (intCells acc) rfl (World.ownsRow.alloc O4.out.own _) ⟨w3.heap.size, 0, none⟩ 1 1 [.int .i64 (y : Int)] rfl rfl (by exact news_new w3 #[.int .i64 (y : Int)] 3) (by simp [Value.oneCell']) (by decide) (by have := A2.out; unfold maxLen; omega) (by have := A2.out; omega) (by have := LW.out; have := LT.out; simp; omega) (w3.heap.size + 1) (by simp) ?_; intro g5 c5 w5 hown5 hgrow5 hat5 hlt5; obtain ⟨o6, r6, b6⟩ := app_after O4.out R4.out hgrow5 hown5 hat5; have O6 := Lib.hid o6; have R6 := Lib.hid r6; have B6 := Lib.hid (B4.out.trans b6); obtain ⟨⟨k0, k1, k2⟩, y0, y1, y2⟩ := r6.cells; obtain ⟨kv, -⟩ := r6.bcell HV.out; clear hown5 hgrow5 hat5 hlt5 o6 r6 b6)
            go_loopg [49] l.length (fun m iv wx => Ord3 w B b gw gb j vs bh (.slice (some ⟨g5, 0, none⟩) (acc.length + 1) c5) (acc ++ [(y : Int)]) l wtf Pf m iv wx)
            case atStart => exact ⟨0, _, _, _, rfl, Nat.le_refl _, Nat.zero_le _, R6.out, O6.out, B6.out, BE.out⟩
            case round =>
              obtain ⟨q, pv7, P7, wt7, rfl, hm7, hq7, hr7, ho7, hb7, he7⟩ := hrel
              have M7 := Lib.hid hm7
              have R7 := Lib.hid hr7
              have O7 := Lib.hid ho7
              have B7 := Lib.hid hb7
              obtain ⟨⟨k0, k1, k2⟩, y0, y1, y2⟩ := hr7.cells
              clear hm7 hr7 ho7 hb7
              by_cases hql : q < l.length
              · have hq9 : (q : Int) + 1 ≤ 9223372036854775807 := by
                  have := R7.out.blen L.out
                  unfold maxLen at this
                  omega
                obtain ⟨z, hz⟩ : ∃ z, l[q]? = some z := ⟨_, List.getElem?_eq_getElem hql⟩
                rw [drop_cons hz] at he7
                obtain ⟨p, x, rfl, hp, hx, hx1, hx2, hcase⟩ := behE_cons he7
                obtain ⟨gv, rfl, cz⟩ := R7.out.vcell L.out HV.out hz
                obtain ⟨cx, fx⟩ := R7.out.wcell hx
                obtain ⟨rs, bs⟩ := R7.out.setWait p (x - 1)
                have RS := Lib.hid rs
                have BS := Lib.hid (B7.out.trans bs)
                have OS := Lib.hid (O7.out.wait p (.int .i64 (x - 1)))
                have hwr : wrap64 (x - 1) = x - 1 := by unfold wrap64; omega
                have p0 : (0 : Int) ≤ (p : Int) := by omega
                have p1 : (p : Int) < (j : Int) := by omega
                obtain ⟨⟨s0, s1, s2⟩, -, -, -⟩ := rs.cells
                have cs : (wr.setCell ⟨gw, p, none⟩ (.int .i64 (x - 1))).cell? ⟨gw, p, none⟩ = some (.int .i64 (x - 1)) := World.cell?_setCell_same wr ⟨gw, p, none⟩ _ cx
                clear he7 hz hx rs bs
                rcases hcase with ⟨hx3, rfl, hbe7⟩ | ⟨hx3, hbe7⟩
                · have gz : (x - 1 == 0) = true := by simp; omega
                  have BE7 := Lib.hid (show behE j (l.drop (q + 1)) (wt7.set p (x - 1)) [(p : Int)] = some (wtf, Pf) by rw [show x - 1 = 0 by omega]; exact hbe7)
                  clear hx3 hbe7 hx1 hx2
                  go_wp2_with fail
                  refine (hpush _ B b gw gb j pv7 vs _ bh RS.out p).mono ?_
                  rintro e w8 ⟨rfl, hb8, hf8, g8, c8, hg8, hr8⟩
                  have O8 := Lib.hid (OutAt.far OS.out RS.out hf8 (pv' := .slice (some ⟨g8, 0, none⟩) 1 c8) (fun k e => by
                    have e2 : g8 = k := by simpa [Value.ownBlock] using e
                    rw [← e2]; exact hg8))
                  have R8 := Lib.hid hr8
                  have B8 := Lib.hid (BS.out.trans hb8)
                  clear hb8 hf8 hg8 hr8
                  go_wp2_with fail
                  go_roundg (l.length - (q + 1))
                  case rel => exact ⟨q + 1, _, _, _, rfl, Nat.le_refl _, hql, R8.out, O8.out, B8.out, BE7.out⟩
                  case measure => have := M7.out; omega
                · have gz : (x - 1 == 0) = false := by simp; omega
                  have BE7 := Lib.hid hbe7
                  clear hx3 hbe7 hx1 hx2
                  go_wp2_with fail
                  go_roundg (l.length - (q + 1))
                  case rel => exact ⟨q + 1, _, _, _, rfl, Nat.le_refl _, hql, RS.out, OS.out, BS.out, BE7.out⟩
                  case measure => have := M7.out; omega
              · have hz : q = l.length := by omega
                subst hz
                have E7 := Lib.hid (show ordE j bh k P7 wt7 (acc ++ [(y : Int)]) = some out by
                  rw [List.drop_length] at he7
                  have e := Option.some.inj (show some (wt7, P7) = some (wtf, Pf) from he7)
                  simp only [Prod.mk.injEq] at e
                  rw [e.1, e.2]; exact OE.out)
                clear he7
                go_wp2_with fail
                go_roundg k
                case rel => exact ⟨pv7, P7, wt7, acc ++ [(y : Int)], R7.out, O7.out, (by have := AL.out; simp; omega), B7.out, E7.out⟩
                case measure => omega
          · rw [ordE_two] at he2; cases he2
end
end Go.Proofs.YtdaphajnioiakaaGreatDoor
namespace Go.Proofs.YtdaphajnioiakaaGreatDoor
open Go.RowKit
set_option linter.unusedVariables false
set_option linter.unusedSimpArgs false
/-- What a name begins with that refers to a place of the same list. -/
def locB : List UInt8 := [108, 111, 99, 97, 108, 46]
def isLoc (x : ByteArray) : Bool := Lib.hasPrefix x.data.toList locB
def cutLoc (x : ByteArray) : ByteArray := ⟨(Lib.trimPrefix x.data.toList locB).toArray⟩
def rowRefs (L : ByteArray → Option Nat) (i : Nat) : List ByteArray → List Int → List (List Int) → Option (Option (List Int × List (List Int)))
  | [], wt, bh => some (some (wt, bh))
  | x :: xs, wt, bh => if isLoc x then
      match L (cutLoc x) with
      | none => some none
      | some f => match wt[i]?, bh[f]? with
        | some v, some l => if v < 0 ∨ 999999 ≤ v ∨ 100000 < l.length then none else rowRefs L i xs (wt.set i (v + 1)) (bh.set f (l ++ [(i : Int)]))
        | _, _ => none
    else rowRefs L i xs wt bh
def rowAll (L : ByteArray → Option Nat) : Nat → List (List ByteArray) → List Int → List (List Int) → Option (Option (List Int × List (List Int)))
  | _, [], wt, bh => some (some (wt, bh))
  | i, rs :: rest, wt, bh => match rowRefs L i rs wt bh with
    | none => none
    | some none => some none
    | some (some s) => rowAll L (i + 1) rest s.1 s.2
theorem rowRefs_cons {L : ByteArray → Option Nat} {i : Nat} {x : ByteArray} {xs : List ByteArray} {wt : List Int} {bh : List (List Int)} {r : Option (List Int × List (List Int))} (h : rowRefs L i (x :: xs) wt bh = some r) :
    (isLoc x = false ∧ rowRefs L i xs wt bh = some r) ∨ (isLoc x = true ∧ L (cutLoc x) = none ∧ r = none) ∨
    (isLoc x = true ∧ ∃ f v l, L (cutLoc x) = some f ∧ wt[i]? = some v ∧ bh[f]? = some l ∧ 0 ≤ v ∧ v < 1000000 ∧ l.length ≤ 100000 ∧ rowRefs L i xs (wt.set i (v + 1)) (bh.set f (l ++ [(i : Int)])) = some r) := by
  unfold rowRefs at h
  cases hx : isLoc x with
  | false => rw [hx] at h; exact .inl ⟨rfl, h⟩
  | true =>
    rw [hx] at h
    simp only [if_true] at h
    cases hL : L (cutLoc x) with
    | none => rw [hL] at h; exact .inr (.inl ⟨rfl, rfl, (Option.some.inj h).symm⟩)
    | some f =>
      rw [hL] at h
      dsimp only at h
      cases hw : wt[i]? with
      | none => rw [hw] at h; cases h
      | some v =>
        cases hb : bh[f]? with
        | none => rw [hw, hb] at h; cases h
        | some l =>
          rw [hw, hb] at h
          dsimp only at h
          by_cases c : v < 0 ∨ 999999 ≤ v ∨ 100000 < l.length
          · rw [if_pos c] at h; cases h
          · rw [if_neg c] at h
            exact .inr (.inr ⟨rfl, f, v, l, rfl, rfl, hb, by omega, by omega, by omega, h⟩)
theorem rowAll_cons {L : ByteArray → Option Nat} {i : Nat} {rs : List ByteArray} {rest : List (List ByteArray)} {wt : List Int} {bh : List (List Int)} {r : Option (List Int × List (List Int))} (h : rowAll L i (rs :: rest) wt bh = some r) :
    ∃ s, rowRefs L i rs wt bh = some s ∧ ((s = none ∧ r = none) ∨ ∃ wt' bh', s = some (wt', bh') ∧ rowAll L (i + 1) rest wt' bh' = some r) := by
  unfold rowAll at h
  cases hr : rowRefs L i rs wt bh with
  | none => rw [hr] at h; cases h
  | some s =>
    rw [hr] at h
    cases s with
    | none => exact ⟨none, rfl, .inl ⟨rfl, (Option.some.inj h).symm⟩⟩
    | some s => exact ⟨some s, rfl, .inr ⟨s.1, s.2, rfl, h⟩⟩
/-- What nodes refer to. -/
def RefsTo (ns : List NodeL) (rs : List ByteArray) : Prop := ∀ (W : World) (nv : Value), NodesRd W nv ns → Calls Tryz.prog 22 #[nv] W fun e W' => ∃ v, e = .returned v ∧ StrsIn W' W.heap.size v rs ∧ Below W.heap.size W W'
def RowRes (w : World) (n : Nat) (r : Option (List Int × List (List Int))) (e : Ending) (w' : World) : Prop := Below w.heap.size w w' ∧
  ((r = none ∧ e = .returned (.tuple #[.pointer none, .int .i64 2])) ∨
    ∃ wt bh b gw gb vs, r = some (wt, bh) ∧ e = .returned (.tuple #[.pointer (some ⟨b, 0, none⟩), .int .i64 0]) ∧ RowAt w' w.heap.size b gw gb n (.slice none 0 0) vs [] wt bh)
theorem cutLoc_size (x : ByteArray) : (cutLoc x).size ≤ x.size := by
  show (Lib.trimPrefix x.data.toList locB).toArray.size ≤ x.data.size
  rw [List.size_toArray]
  unfold Lib.trimPrefix
  split <;> simp
theorem pcutLoc (x : ByteArray) (W : World) : Calls Tryz.prog 28 #[.string x, .string ⟨#[108, 111, 99, 97, 108, 46]⟩] W fun e w' => e = .returned (.tuple #[.string (cutLoc x), .bool (isLoc x)]) ∧ W = w' :=
  (Tryz.strings_CutPrefix x ⟨#[108, 111, 99, 97, 108, 46]⟩ W).mono fun e w' h => ⟨h.1, h.2.symm⟩
def Row1 (w : World) (b gw gb n : Nat) (L : ByteArray → Option Nat) (rl : List (List ByteArray)) (r : Option (List Int × List (List Int))) (m : Nat) (iv : Value) (wr : World) : Prop :=
  ∃ (j : Nat) (vs : List Value) (wt : List Int) (bh : List (List Int)), iv = .int .i64 j ∧ n - j ≤ m ∧ j ≤ n ∧ RowAt wr w.heap.size b gw gb n (.slice none 0 0) vs [] wt bh ∧ Below w.heap.size w wr ∧ rowAll L j (rl.drop j) wt bh = some r
def Row2 (w wa w4 : World) (b gw gb n j : Nat) (L : ByteArray → Option Nat) (rs : List ByteArray) (s : Option (List Int × List (List Int))) (m : Nat) (iv : Value) (wx : World) : Prop :=
  ∃ (q : Nat) (vs : List Value) (wt : List Int) (bh : List (List Int)), iv = .int .i64 q ∧ rs.length - q ≤ m ∧ q ≤ rs.length ∧ RowAt wx w.heap.size b gw gb n (.slice none 0 0) vs [] wt bh ∧ Below w.heap.size w wx ∧ rowRefs L j (rs.drop q) wt bh = some s ∧
    ∀ g, wa.heap.size ≤ g → g < w4.heap.size → wx.heap[g]? = w4.heap[g]? ∧ ClearV wx gw gb vs g
theorem dropL_cons {α : Type} {l : List α} {j : Nat} {x : α} (h : l[j]? = some x) : l.drop j = x :: l.drop (j + 1) := by
  obtain ⟨h1, h2⟩ := List.getElem?_eq_some_iff.1 h
  rw [← h2]
  exact List.drop_eq_getElem_cons h1
section
variable (w : World)
set_option maxHeartbeats 2000000 in
set_option maxRecDepth 20000 in
theorem prowOf (av : Value) (al : List (ByteArray × List NodeL)) (rl : List (List ByteArray)) (g0 : Nat) (L : ByteArray → Option Nat) (h : AttrsRd w av al) (hl : al.length ≤ 1000) (hp : PlacesAt w g0 al.length L) (hlen : rl.length = al.length)
    (hr : ∀ (i : Nat) (a : ByteArray × List NodeL) (rs : List ByteArray), al[i]? = some a → rl[i]? = some rs → RefsTo a.2 rs ∧ rs.length ≤ 100000 ∧ ∀ x ∈ rs, x.size ≤ 100000) (r : Option (List Int × List (List Int))) (hrow : rowAll L 0 rl (List.replicate al.length 0) (List.replicate al.length []) = some r) :
    Calls Tryz.prog 19 #[av, .map (some g0)] w (RowRes w al.length r) := by
  have H := Lib.hid h
  have HP := Lib.hid hp
  have HR := Lib.hid hr
  have ROW := Lib.hid hrow
  obtain ⟨ao, cap, rfl, -⟩ := h
  clear hp hr hrow
  go_enter Tryz.func19, Tryz.ntmps19
  go_wp2_with fail
  refine (pnewRow w al.length hl).mono ?_
  rintro e w1 ⟨b, gw, gb, rfl, hb1, hr1⟩
  have R1 := Lib.hid hr1
  have B1 := Lib.hid hb1
  clear hb1 hr1
  go_wp2_with fail
  go_loopg [20] al.length (fun m iv wr => Row1 w b gw gb al.length L rl r m iv wr)
  case atStart => exact ⟨0, _, _, _, rfl, Nat.le_refl _, Nat.zero_le _, R1.out, B1.out, ROW.out⟩
  case round =>
    obtain ⟨j, vs, wt, bh, rfl, hm, hj, hr2, hb2, hrow⟩ := hrel
    have HM := Lib.hid hm
    have R2 := Lib.hid hr2
    have B2 := Lib.hid hb2
    clear hm hr2 hb2
    by_cases hjl : j < al.length
    · obtain ⟨a, ha⟩ : ∃ a, al[j]? = some a := ⟨_, List.getElem?_eq_getElem hjl⟩
      obtain ⟨rs, hrs⟩ : ∃ rs, rl[j]? = some rs := ⟨_, List.getElem?_eq_getElem (by omega)⟩
      obtain ⟨hrt, hrs1, hrs2⟩ := HR.out j a rs ha hrs
      rw [dropL_cons hrs] at hrow
      obtain ⟨s, hs1, hs2⟩ := rowAll_cons hrow
      obtain ⟨ao2, cap2, e2, hat⟩ := H.out.below B2.out
      simp at e2
      obtain ⟨rfl, rfl⟩ := e2
      obtain ⟨g, o, no, nc, rfl, c0, c1, hnd⟩ := hat j a ha
      have S1 := Lib.hid hs1
      have S2 := Lib.hid hs2
      have L1 := Lib.hid hrs1
      have L2 := Lib.hid hrs2
      have BA := Lib.hid (below_al (Below.refl wr.heap.size wr) (.cells #[.string a.1, .slice no a.2.length nc] 36))
      have RT := Lib.hid (hrt _ _ (hnd.below BA.out))
      have RA := Lib.hid (R2.out.below BA.out)
      clear hrow hs1 hs2 hrs1 hrs2 hat hnd hrt ha hrs
      go_wp2_with fail
      generalize wr.alloc (.cells #[.string a.1, .slice no a.2.length nc] 36) = wa at *
      refine RT.out.mono ?_
      rintro e w4 ⟨v, rfl, hv4, hb4⟩
      obtain ⟨so, sc, rfl, hst⟩ := hv4
      have ST := Lib.hid hst
      have R4 := Lib.hid (RA.out.below hb4)
      have B4 := Lib.hid ((B2.out.trans (BA.out.mono B2.out.size)).trans (hb4.mono (B2.out.trans (BA.out.mono B2.out.size)).size))
      have K4 := Lib.hid (show ∀ g, wa.heap.size ≤ g → g < w4.heap.size → w4.heap[g]? = w4.heap[g]? ∧ ClearV w4 gw gb vs g from fun g h1 h2 => by
        obtain ⟨l1, l2, l3⟩ := RA.out.lts
        exact ⟨rfl, h2, by omega, by omega, fun i v hv e => by have := (RA.out.vne hv e).2.1; omega⟩)
      clear hst hb4
      go_wp2_with fail
      go_loopg [29] rs.length (fun m iv wx => Row2 w wa w4 b gw gb al.length j L rs s m iv wx)
      case atStart => exact ⟨0, _, _, _, rfl, Nat.le_refl _, Nat.zero_le _, R4.out, B4.out, S1.out, fun g h1 h2 => ⟨rfl, (K4.out g h1 h2).2⟩⟩
      case round =>
        obtain ⟨q, vs5, wt5, bh5, rfl, hm5, hq5, hr5, hb5, hs5, hk5⟩ := hrel
        have M5 := Lib.hid hm5
        have R5 := Lib.hid hr5
        have B5 := Lib.hid hb5
        have K5 := Lib.hid hk5
        clear hm5 hr5 hb5 hk5
        by_cases hql : q < rs.length
        · obtain ⟨x, hx⟩ : ∃ x, rs[q]? = some x := ⟨_, List.getElem?_eq_getElem hql⟩
          have SZ := Lib.hid (L2.out x (List.mem_of_getElem? hx))
          have hq9 : rs.length ≤ 100000 := L1.out
          rw [dropL_cons hx] at hs5
          obtain ⟨g5, o5, rfl, hg5, hg6, cx0⟩ := ST.out q x hx
          have cx := (World.cell?_of_block (a := ⟨g5, o5 + q, none⟩) (K5.out g5 hg5 hg6).1).trans cx0
          have C := Lib.hid (pcutLoc x wr)
          clear cx0 hx hg5 hg6
          rcases rowRefs_cons hs5 with ⟨hi, hs6⟩ | ⟨hi, hL, hs6⟩ | ⟨hi, f, v, l, hL, hw6, hb6, hv0, hv1, hll, hs6⟩
          · rw [hi] at C
            have S6 := Lib.hid hs6
            clear hs5 hs6 hi
            go_wp2_with fail
            refine C.out.mono ?_
            rintro e w6 ⟨rfl, rfl⟩
            go_wp2_with fail
            go_roundg (rs.length - (q + 1))
            case rel => exact ⟨q + 1, _, _, _, rfl, Nat.le_refl _, hql, R5.out, B5.out, S6.out, K5.out⟩
            case measure => have := M5.out; omega
          · rw [hi] at C
            obtain ⟨d, hmap, hx5⟩ := HP.out.below B5.out
            obtain ⟨q1, q2⟩ := (hx5 (cutLoc x)).1 hL
            have M1 := Lib.hid hmap
            have Q1 := Lib.hid q1
            have Q2 := Lib.hid q2
            have SX := Lib.hid (show (cutLoc x).size ≤ maxLen by have := cutLoc_size x; have := SZ.out; unfold maxLen; omega)
            have RN := Lib.hid (show r = none by
              rcases S2.out with ⟨-, h⟩ | ⟨wt', bh', h, -⟩
              · exact h
              · rw [hs6] at h; cases h)
            clear hs5 hs6 hi hmap hx5 q1 q2 hL
            go_wp2_with fail
            refine C.out.mono ?_
            rintro e w6 ⟨rfl, rfl⟩
            go_wp2_with (at_lookup; refine wpList_lookup_place _ rfl _ _ rfl g0 al.length d rfl M1.out (cutLoc x) rfl SX.out _ Q2.out false Q1.out ?_)
            exact bodyPost_ret (v := .tuple #[.pointer none, .int .i64 2]) (by simp [results, Tryz.results19, go_sem]) rfl ⟨B5.out, .inl ⟨RN.out, rfl⟩⟩
          · rw [hi] at C
            obtain ⟨d, hmap, hx5⟩ := HP.out.below B5.out
            obtain ⟨q1, q2⟩ := (hx5 (cutLoc x)).2 f hL
            have M1 := Lib.hid hmap
            have Q1 := Lib.hid q1
            have Q2 := Lib.hid q2
            have SX := Lib.hid (show (cutLoc x).size ≤ maxLen by have := cutLoc_size x; have := SZ.out; unfold maxLen; omega)
            have PP := Lib.hid (pput wr w.heap.size b gw gb al.length (.slice none 0 0) vs5 [] wt5 bh5 R5.out j f v l hw6 hb6 hl hll hv0 hv1)
            have S6 := Lib.hid hs6
            clear hs5 hs6 hi hmap hx5 q1 q2 hL hw6 hb6 hv0 hv1 hll
            go_wp2_with fail
            refine C.out.mono ?_
            rintro e w6 ⟨rfl, rfl⟩
            go_wp2_with (at_lookup; refine wpList_lookup_place _ rfl _ _ rfl g0 al.length d rfl M1.out (cutLoc x) rfl SX.out _ Q2.out true Q1.out ?_)
            refine PP.out.mono ?_
            rintro e w7 ⟨rfl, hb7, vs7, hr7, hk7⟩
            have R7 := Lib.hid hr7
            have B7 := Lib.hid (B5.out.trans hb7)
            have K7 := Lib.hid (show ∀ g, wa.heap.size ≤ g → g < w4.heap.size → w7.heap[g]? = w4.heap[g]? ∧ ClearV w7 gw gb vs7 g from fun g h1 h2 => by
              obtain ⟨k1, k2⟩ := K5.out g h1 h2
              exact ⟨(hk7 g k2).1.trans k1, (hk7 g k2).2⟩)
            clear hb7 hr7 hk7
            go_wp2_with fail
            go_roundg (rs.length - (q + 1))
            case rel => exact ⟨q + 1, _, _, _, rfl, Nat.le_refl _, hql, R7.out, B7.out, S6.out, K7.out⟩
            case measure => have := M5.out; omega
        · have hz : q = rs.length := by omega
          subst hz
          have N6 := Lib.hid (show rowAll L (j + 1) (rl.drop (j + 1)) wt5 bh5 = some r by
            rw [List.drop_length] at hs5
            have e := Option.some.inj (show some (some (wt5, bh5)) = some s from hs5)
            rcases S2.out with ⟨h, -⟩ | ⟨wt', bh', h, h2⟩
            · rw [← e] at h; cases h
            · rw [← e] at h
              simp only [Option.some.injEq, Prod.mk.injEq] at h
              rw [h.1, h.2]; exact h2)
          clear hs5
          go_wp2_with fail
          go_roundg (al.length - (j + 1))
          case rel => exact ⟨j + 1, _, _, _, rfl, Nat.le_refl _, hjl, R5.out, B5.out, N6.out⟩
          case measure => have := HM.out; omega
    · have hz : j = al.length := by omega
      subst hz
      have E := Lib.hid (show some (wt, bh) = r by
        rw [List.drop_of_length_le (by omega)] at hrow
        exact Option.some.inj hrow)
      clear hrow
      go_wp2_with fail
      exact bodyPost_ret (v := .tuple #[.pointer (some ⟨b, 0, none⟩), .int .i64 0]) (by simp [results, Tryz.results19, go_sem]) rfl ⟨B2.out, .inr ⟨wt, bh, b, gw, gb, vs, E.out.symm, rfl, R2.out⟩⟩
end
end Go.Proofs.YtdaphajnioiakaaGreatDoor
namespace Go.Proofs.YtdaphajnioiakaaGreatDoor
open Go.RowKit
set_option linter.unusedVariables false
set_option linter.unusedSimpArgs false
def OrderRes (w : World) (n : Nat) (r : Option (List Int × List (List Int))) (out : List Int) (e : Ending) (w' : World) : Prop := Below w.heap.size w w' ∧
  ((r = none ∧ e = .returned (.tuple #[.slice none 0 0, .int .i64 2])) ∨ (r ≠ none ∧ out.length < n ∧ e = .returned (.tuple #[.slice none 0 0, .int .i64 10])) ∨
    (r ≠ none ∧ n ≤ out.length ∧ ∃ v, e = .returned (.tuple #[v, .int .i64 0]) ∧ IntsRd w' v out))
section
variable (w : World)
set_option maxHeartbeats 2000000 in
set_option maxRecDepth 20000 in
theorem pOrder (av : Value) (al : List (ByteArray × List NodeL)) (rl : List (List ByteArray)) (h : AttrsRd w av al) (hl : al.length ≤ 1000) (hz : ∀ a ∈ al, a.1.size ≤ 100000) (ho : NamesOnce al) (ht : TreesOK al) (hv : ErrVar w) (hlen : rl.length = al.length)
    (hr : ∀ (i : Nat) (a : ByteArray × List NodeL) (rs : List ByteArray), al[i]? = some a → rl[i]? = some rs → RefsTo a.2 rs ∧ rs.length ≤ 100000 ∧ ∀ x ∈ rs, x.size ≤ 100000) (r : Option (List Int × List (List Int))) (hrow : rowAll (placeL al) 0 rl (List.replicate al.length 0) (List.replicate al.length []) = some r)
    (out : List Int) (hout : ∀ wt bh, r = some (wt, bh) → ∃ P0 fuel, startE 0 wt [] = some P0 ∧ ordE al.length bh fuel P0 wt [] = some out ∧ fuel ≤ 1000000) :
    Calls Tryz.prog 8 #[av] w (OrderRes w al.length r out) := by
  have H := Lib.hid h
  have V := Lib.hid hv
  have HT := Lib.hid ht
  have HR := Lib.hid hr
  have HO := Lib.hid hout
  have C1 := Lib.hid (pplaces w av al h hl hz ho)
  have hlen2 : (al.length : Int) ≤ 1000 := by omega
  obtain ⟨ao, cap, rfl, -⟩ := h
  clear ht hv hr hz ho hout
  go_enter Tryz.func8, Tryz.ntmps8
  go_wp2_with fail
  refine C1.out.mono ?_
  rintro e w1 ⟨rfl, hb1, hp1⟩
  have P1 := Lib.hid hp1
  have B1 := Lib.hid hb1
  clear hb1 hp1
  go_wp2_with fail
  refine (pcontains w1 _ al (H.out.below B1.out) hl HT.out (V.out.below B1.out V.out.lt)).mono ?_
  rintro e w2 ⟨rfl, hb2⟩
  have B2 := Lib.hid (B1.out.trans (hb2.mono B1.out.size))
  have P2 := Lib.hid (P1.out.below hb2)
  clear hb2
  go_wp2_with fail
  refine (prowOf w2 _ al rl w.heap.size (placeL al) (H.out.below B2.out) hl P2.out hlen HR.out r hrow).mono ?_
  rintro e w3 ⟨hb3, h3⟩
  have B3 := Lib.hid (B2.out.trans (hb3.mono B2.out.size))
  clear hb3
  rcases h3 with ⟨hr3, rfl⟩ | ⟨wt, bh, b, gw, gb, vs, hr3, rfl, hrow3⟩
  · have RN := Lib.hid hr3
    clear hr3 hrow
    go_wp2_with fail
    exact bodyPost_ret (v := .tuple #[.slice none 0 0, .int .i64 2]) (by simp [results, Tryz.results8, go_sem]) rfl ⟨B3.out, .inl ⟨RN.out, rfl⟩⟩
  · obtain ⟨P0, fuel, ho1, ho2, ho3⟩ := HO.out wt bh hr3
    have RN := Lib.hid (show r ≠ none by rw [hr3]; simp)
    have OC := Lib.hid (porder w3 w2.heap.size b gw gb al.length _ vs wt bh hrow3 hl P0 out fuel ho1 ho2 ho3)
    clear hr3 hrow ho1 ho2 ho3 hrow3
    go_wp2_with fail
    refine OC.out.mono ?_
    rintro e w4 ⟨v, rfl, hb4, hv4⟩
    have B4 := Lib.hid (B3.out.trans (hb4.mono B2.out.size))
    have I4 := Lib.hid (ints_of_own hv4)
    obtain ⟨vo, vc, rfl⟩ := I4.out.shape
    clear hb4 hv4
    by_cases hlt : out.length < al.length
    · go_wp2_with fail
      exact bodyPost_ret (v := .tuple #[.slice none 0 0, .int .i64 10]) (by simp [results, Tryz.results8, go_sem]) rfl ⟨B4.out, .inr (.inl ⟨RN.out, hlt, rfl⟩)⟩
    · go_wp2_with fail
      exact bodyPost_ret (v := .tuple #[.slice vo out.length vc, .int .i64 0]) (by simp [results, Tryz.results8, go_sem]) rfl ⟨B4.out, .inr (.inr ⟨RN.out, by omega, _, rfl, I4.out⟩)⟩
end
end Go.Proofs.YtdaphajnioiakaaGreatDoor
