/- Package lint: what modules say that they use. -/
import Derived.Test.YtlkdicabmikhkaaGreatDoorLiF
namespace Go.Proofs.YtlkdicabmikhkaaGreatDoor
open Go.RowKit Go.Sort
set_option linter.unusedVariables false
set_option linter.unusedSimpArgs false
def sUse : ByteArray := ⟨#[117, 115, 101]⟩
def usesOf : List (ByteArray × List NodeL) → List (List NodeL)
  | [] => []
  | a :: al => if a.1 = sUse then [a.2] else usesOf al
def usesB (u : List BlkL → List (List NodeL)) (b : BlkL) : List (List NodeL) := (if b.kind = 4 then usesOf b.attrs else []) ++ u b.blocks
def usesD : Nat → List BlkL → List (List NodeL)
  | 0, _ => []
  | d + 1, l => l.flatMap (usesB (usesD d))
theorem usesOf_drop {al : List (ByteArray × List NodeL)} {q : Nat} {a : ByteArray × List NodeL} (h : al[q]? = some a) : usesOf (al.drop q) = if a.1 = sUse then [a.2] else usesOf (al.drop (q + 1)) := by
  obtain ⟨h1, h2⟩ := List.getElem?_eq_some_iff.1 h
  rw [List.drop_eq_getElem_cons h1, h2]
  rfl
theorem usesOf_one (al : List (ByteArray × List NodeL)) : (usesOf al).length ≤ 1 := by
  induction al with
  | nil => simp [usesOf]
  | cons a al ih => unfold usesOf; split <;> simp [ih]
/-- Rows of nodes that lay in a world ahead, themselves in a row of the call's own. -/
def NRows (w0 w : World) (B : Nat) (v : Value) (ls : List (List NodeL)) : Prop :=
  ∃ vs : List Value, vs.length = ls.length ∧ w.ownsRow B 36 1 v ls.length vs ∧ ∀ (i : Nat) (u : Value) (ns : List NodeL), vs[i]? = some u → ls[i]? = some ns → NodesRd w0 u ns
theorem NRows.below {w0 w w' : World} {B : Nat} {v : Value} {ls : List (List NodeL)} (h : NRows w0 w B v ls) (hb : Below w.heap.size w w') : NRows w0 w' B v ls := by
  obtain ⟨vs, h1, h2, h3⟩ := h
  exact ⟨vs, h1, own_below h2 hb, h3⟩
theorem NRows.base {w0 w : World} {B B' : Nat} {v : Value} {ls : List (List NodeL)} (h : NRows w0 w B v ls) (hB : B' ≤ B) : NRows w0 w B' v ls := by
  obtain ⟨vs, h1, h2, h3⟩ := h
  exact ⟨vs, h1, own_base h2 hB, h3⟩
theorem NRows.nil (w0 w : World) (B : Nat) : NRows w0 w B (.slice none 0 0) [] := ⟨[], rfl, World.ownsRow_nil _ _ _ _, fun i u ns hu => by simp at hu⟩
theorem NRows.len {w0 w : World} {B : Nat} {v : Value} {ls : List (List NodeL)} (h : NRows w0 w B v ls) : ∃ ao c, v = .slice ao ls.length c := by
  obtain ⟨vs, h1, h2, h3⟩ := h
  exact own_lenR h2
theorem NRows.app {w0 w9 : World} {B : Nat} {v9 : Value} {ka kb : List (List NodeL)} {xs ys : List Value} (hx : xs.length = ka.length) (hy : ys.length = kb.length)
    (h1 : ∀ (i : Nat) (u : Value) (ns : List NodeL), xs[i]? = some u → ka[i]? = some ns → NodesRd w0 u ns) (h2 : ∀ (i : Nat) (u : Value) (ns : List NodeL), ys[i]? = some u → kb[i]? = some ns → NodesRd w0 u ns)
    (ho : w9.ownsRow B 36 1 v9 (ka.length + kb.length) (xs ++ ys)) : NRows w0 w9 B v9 (ka ++ kb) := by
  refine ⟨xs ++ ys, by simp [hx, hy], by rw [List.length_append]; exact ho, fun i u ns hu hn => ?_⟩
  by_cases hi : i < xs.length
  · rw [List.getElem?_append_left hi] at hu
    rw [List.getElem?_append_left (by omega)] at hn
    exact h1 i u ns hu hn
  · rw [List.getElem?_append_right (by omega)] at hu
    rw [List.getElem?_append_right (by omega), ← hx] at hn
    exact h2 _ u ns hu hn
theorem nrows_cells {w0 : World} {ls : List (List NodeL)} {vs : List Value} (h0 : vs.length = ls.length) (h : ∀ (i : Nat) (u : Value) (ns : List NodeL), vs[i]? = some u → ls[i]? = some ns → NodesRd w0 u ns) : ∀ u ∈ vs, u.oneCell' = true := by
  intro u hu
  obtain ⟨i, hi⟩ := List.getElem?_of_mem hu
  have hl := (List.getElem?_eq_some_iff.1 hi).1
  obtain ⟨ao, cap, rfl, -⟩ := (h i u _ hi (List.getElem?_eq_getElem (by omega))).at
  rfl
theorem nodes_cell {w : World} {u : Value} {ns : List NodeL} (h : NodesRd w u ns) : u.oneCell' = true := by
  obtain ⟨ao, cap, rfl, -⟩ := h.at
  rfl
theorem info_nodes : (Tryz.prog.info? 36).map (fun i => (i.zero, i.size, i.bytes)) = some (some (.slice none 0 0), 1, 24) := by kernel_rfl
section
variable (w0 w : World)
set_option maxHeartbeats 1000000 in
set_option maxRecDepth 20000 in
theorem puse (b : BlkL) (ato : Option Addr) (atc : Nat) (bo : Option Addr) (bc : Nat) (h : AttrsRd w0 (.slice ato b.attrs.length atc) b.attrs) (hW : Below w0.heap.size w0 w) (hl : b.attrs.length ≤ 1000) :
    Calls Tryz.prog 31 #[blkV b ato atc bo bc] w fun e w' => ∃ v, e = .returned v ∧ NRows w0 w' w.heap.size v (usesOf b.attrs) ∧ Below w.heap.size w w' := by
  have H := Lib.hid h
  have HW := Lib.hid hW
  have BA := Lib.hid (below_al (Below.refl w.heap.size w) (.cells #[.int .i64 b.kind, .string b.label, .slice ato b.attrs.length atc, .slice bo b.blocks.length bc] 28))
  unfold blkV
  clear h hW
  go_enter Tryz.func31, Tryz.ntmps31
  go_wp2_with fail
  generalize w.alloc (.cells #[.int .i64 b.kind, .string b.label, .slice ato b.attrs.length atc, .slice bo b.blocks.length bc] 28) = W at *
  go_loopg [8] b.attrs.length (fun m iv wr => ∃ j : Nat, iv = .int .i64 j ∧ b.attrs.length - j ≤ m ∧ j ≤ b.attrs.length ∧ Hid (Below w.heap.size w wr) ∧ Hid (usesOf (b.attrs.drop j) = usesOf b.attrs))
  case atStart => exact ⟨0, rfl, Nat.le_refl _, Nat.zero_le _, BA, Lib.hid rfl⟩
  case round =>
    obtain ⟨j, rfl, hm, hj, B, U⟩ := hrel
    have HM := Lib.hid hm
    clear hm
    by_cases hjl : j < b.attrs.length
    · obtain ⟨a, haj⟩ : ∃ a, b.attrs[j]? = some a := ⟨_, List.getElem?_eq_getElem hjl⟩
      have UD := Lib.hid (usesOf_drop haj)
      obtain ⟨ao2, cap2, e2, hat⟩ := H.out
      simp at e2
      obtain ⟨rfl, rfl⟩ := e2
      obtain ⟨g, o, no, nc, rfl, c0, c1, hnr⟩ := hat j a haj
      replace c0 := hold (HW.out.trans (B.out.mono HW.out.size)) c0
      replace c1 := hold (HW.out.trans (B.out.mono HW.out.size)) c1
      have B2 := Lib.hid (below_al B.out (.cells #[.string a.1, .slice no a.2.length nc] 38))
      have HN := Lib.hid hnr
      clear hat haj hnr
      by_cases k : a.1 = sUse
      · have g1 : (a.1.toList == [117, 115, 101]) = true := str_is k
        have UE := Lib.hid (show usesOf b.attrs = [a.2] by rw [← U.out, UD.out, if_pos k])
        have B3 := Lib.hid (below_al B2.out (.cells #[.slice no a.2.length nc] 36))
        have OL := Lib.hid (World.ownsRow_lit (base := w.heap.size) (size := 1) (e := 36) (wr.alloc (.cells #[.string a.1, .slice no a.2.length nc] 38)) #[.slice no a.2.length nc] 1 (by have := B2.out.size; simp at this ⊢; omega) (by decide) rfl)
        clear k UD U
        go_wp2_with fail
        go_ret
        refine ⟨_, rfl, ?_, B3.out⟩
        rw [UE.out]
        refine ⟨[.slice no a.2.length nc], rfl, by simpa using OL.out, fun i u ns hu hn => ?_⟩
        obtain rfl : i = 0 := by have := (List.getElem?_eq_some_iff.1 hu).1; simpa using this
        simp at hu hn
        subst hu hn
        exact HN.out
      · have g1 : (a.1.toList == [117, 115, 101]) = false := str_ne k
        have UE := Lib.hid (show usesOf (b.attrs.drop (j + 1)) = usesOf b.attrs by rw [← U.out, UD.out, if_neg k])
        clear k UD U
        go_wp2_with fail
        go_roundg (b.attrs.length - (j + 1))
        case rel => exact ⟨j + 1, rfl, Nat.le_refl _, hjl, B2, UE⟩
        case measure => have := HM.out; omega
    · obtain rfl : j = b.attrs.length := by omega
      have UE := Lib.hid (show usesOf b.attrs = [] by rw [← U.out, List.drop_length]; rfl)
      clear U
      go_wp2_with fail
      go_ret
      exact ⟨_, rfl, by rw [UE.out]; exact NRows.nil _ _ _, B.out⟩
def UsRel (w0 w : World) (u : List BlkL → List (List NodeL)) (l : List BlkL) (m : Nat) (sv iv : Value) (wr : World) : Prop :=
  ∃ j : Nat, iv = .int .i64 j ∧ l.length - j ≤ m ∧ j ≤ l.length ∧ Below w.heap.size w wr ∧ NRows w0 wr w.heap.size sv ((l.take j).flatMap (usesB u))
/-- What uses tells, for so many levels. -/
def UsesAt (d : Nat) : Prop := ∀ (w0 w : World) (bv : Value) (l : List BlkL), BlksRd d w0 bv l → Below w0.heap.size w0 w → BlksOK d l → (usesD d l).length ≤ 90000 →
  Calls Tryz.prog 20 #[bv] w fun e w' => ∃ v, e = .returned v ∧ NRows w0 w' w.heap.size v (usesD d l) ∧ Below w.heap.size w w'
theorem UsesAt.call {d : Nat} (h : UsesAt d) (w0 w : World) (bv : Value) (l : List BlkL) (h1 : BlksRd d w0 bv l) (hW : Below w0.heap.size w0 w) (h2 : BlksOK d l) (h3 : (usesD d l).length ≤ 90000) :
    Calls Tryz.prog 20 #[bv] w fun e w' => ∃ v, e = .returned v ∧ NRows w0 w' w.heap.size v (usesD d l) ∧ Below w.heap.size w w' := h w0 w bv l h1 hW h2 h3
theorem attrs_few {b : BlkL} (h : BlkOK b) : b.attrs.length ≤ 1000 := by
  rcases h with ⟨k, l, a, x⟩ | ⟨k, l, a, x⟩ | ⟨k, l, a, x⟩
  · rw [a]; simp
  · exact a.few
  · exact a.few
set_option maxHeartbeats 4000000 in
set_option maxRecDepth 20000 in
theorem puses_step (d : Nat) (bv : Value) (l : List BlkL) (ih : l ≠ [] → UsesAt d) (h : BlksRd (d + 1) w0 bv l) (hW : Below w0.heap.size w0 w) (hl : l.length ≤ 1000) (ho : ∀ b ∈ l, BlkOK b ∧ BlksOK d b.blocks) (hr : (l.flatMap (usesB (usesD d))).length ≤ 90000) :
    Calls Tryz.prog 20 #[bv] w fun e w' => ∃ v, e = .returned v ∧ NRows w0 w' w.heap.size v (l.flatMap (usesB (usesD d))) ∧ Below w.heap.size w w' := by
  have H := Lib.hid h
  have HW := Lib.hid hW
  have HO := Lib.hid ho
  have HR := Lib.hid hr
  have IH := Lib.hid (fun hne => (ih hne).call)
  obtain ⟨ao, cap, rfl⟩ := h.len
  obtain ⟨i0, hi0, hz0, hz1, hz2⟩ := info_parts info_nodes
  clear h hr ho ih hW
  generalize hu : usesD d = u at *
  clear hu
  go_enter Tryz.func20, Tryz.ntmps20
  go_wp2_with fail
  go_loopg [3, 8] l.length (fun m sv iv wr => UsRel w0 w u l m sv iv wr)
  case atStart => exact ⟨0, rfl, Nat.le_refl _, Nat.zero_le _, Below.refl _ _, NRows.nil _ _ _⟩
  case round =>
    obtain ⟨j, rfl, hm, hj, hb, hn⟩ := hrel
    have HM := Lib.hid hm
    have B := Lib.hid hb
    have BT := Lib.hid (HW.out.trans (hb.mono HW.out.size))
    obtain ⟨so, sc, rfl⟩ := hn.len
    have HN := Lib.hid hn
    clear hm hn hb
    by_cases hjl : j < l.length
    · obtain ⟨b, hbj⟩ : ∃ b, l[j]? = some b := ⟨_, List.getElem?_eq_getElem hjl⟩
      have hmem := List.mem_of_getElem? hbj
      have HA := Lib.hid (attrs_few (HO.out b hmem).1)
      have HB := Lib.hid (HO.out b hmem).2
      have SN := Lib.hid (flat_snoc (usesB u) hbj)
      have LE := Lib.hid (Nat.le_trans (flat_le (usesB u) hbj) HR.out)
      obtain ⟨ao2, cap2, e2, hat⟩ := H.out
      simp at e2
      obtain ⟨rfl, rfl⟩ := e2
      obtain ⟨g, o, ato, atc, bo, bc, rfl, c0, c1, c2, c3, hra, hrb⟩ := hat j b hbj
      replace c0 := hold BT.out c0
      replace c1 := hold BT.out c1
      replace c2 := hold BT.out c2
      replace c3 := hold BT.out c3
      have BA := Lib.hid (below_al B.out (.cells #[.int .i64 b.kind, .string b.label, .slice ato b.attrs.length atc, .slice bo b.blocks.length bc] 28))
      have BTA := Lib.hid (below_al BT.out (.cells #[.int .i64 b.kind, .string b.label, .slice ato b.attrs.length atc, .slice bo b.blocks.length bc] 28))
      have NB := Lib.hid (heap_alloc_new wr (.cells #[.int .i64 b.kind, .string b.label, .slice ato b.attrs.length atc, .slice bo b.blocks.length bc] 28))
      have WS := Lib.hid (show wr.heap.size < (wr.alloc (.cells #[.int .i64 b.kind, .string b.label, .slice ato b.attrs.length atc, .slice bo b.blocks.length bc] 28)).heap.size by simp)
      have HRA := Lib.hid hra
      have HRB := Lib.hid hrb
      obtain ⟨xs, hx1, hx2, hx3⟩ := HN.out
      have OB := Lib.hid (World.ownsRow.lt hx2)
      have X1 := Lib.hid hx1
      have X2 := Lib.hid (World.ownsRow.alloc hx2 (.cells #[.int .i64 b.kind, .string b.label, .slice ato b.attrs.length atc, .slice bo b.blocks.length bc] 28))
      have X3 := Lib.hid hx3
      clear hat hbj hmem hra hrb HN hx1 hx2 hx3
      generalize hacc : (l.take j).flatMap (usesB u) = acc at *
      have HACC := Lib.hid hacc
      clear hacc
      by_cases k4 : b.kind = 4
      · have g1 : (b.kind == 4) = true := by simpa using k4
        have UB := Lib.hid (show usesB u b = usesOf b.attrs ++ u b.blocks by unfold usesB; rw [if_pos k4])
        rw [UB.out] at SN LE
        have PU := Lib.hid (puse w0 (wr.alloc (.cells #[.int .i64 b.kind, .string b.label, .slice ato b.attrs.length atc, .slice bo b.blocks.length bc] 28)) b ato atc bo bc HRA.out BTA.out HA.out)
        unfold blkV at PU
        have LU := Lib.hid (show acc.length + (usesOf b.attrs).length ≤ 90000 ∧ acc.length + (usesOf b.attrs).length + (u b.blocks).length ≤ 90000 by have := LE.out; simp only [List.length_append] at this; omega)
        have m0 := cell_of_row _ _ 0 _ _ _ NB.out
        have m1 := cell_of_row _ _ 1 _ _ _ NB.out
        have m2 := cell_of_row _ _ 2 _ _ _ NB.out
        have m3 := cell_of_row _ _ 3 _ _ _ NB.out
        simp only [List.getElem?_toArray, List.getElem?_cons_zero, List.getElem?_cons_succ] at m0 m1 m2 m3
        clear k4
        go_wp2_with fail
        generalize wr.alloc (.cells #[.int .i64 b.kind, .string b.label, .slice ato b.attrs.length atc, .slice bo b.blocks.length bc] 28) = wa at *
        refine PU.out.mono ?_
        rintro e w2 ⟨v2, rfl, hn2, hb2⟩
        obtain ⟨ys, hy1, hy2, hy3⟩ := hn2
        generalize usesOf b.attrs = us at *
        obtain ⟨lo, lc, rfl⟩ := own_lenR hy2
        obtain ⟨S1, S2⟩ := own_srcX hy2
        have s1 := Lib.hid S1
        have s2 := Lib.hid S2
        have Y1 := Lib.hid hy1
        have Y3 := Lib.hid hy3
        have O2 := Lib.hid (own_below X2.out hb2)
        have B2 := Lib.hid (BA.out.trans (hb2.mono BA.out.size))
        have hsm : acc.length + us.length ≤ maxLen ∧ (acc.length + us.length) * 24 ≤ 140737488355328 := by have := LU.out; unfold maxLen; omega
        have hbs : w.heap.size ≤ w2.heap.size := B2.out.size
        have HG := Lib.hid (hold hb2 m3)
        have W2 := Lib.hid hb2.size
        clear hy1 hy2 hy3 hb2 S1 S2 PU m0 m1 m2 m3
        go_wp2_with (at_builtin; refine wpList_append_any _ rfl _ _ 44 rfl w.heap.size 36 i0 _ 1 24 Tryz.underlying44 hi0 hz0 hz1 hz2 rfl (by decide) (.slice so acc.length sc) acc.length xs rfl O2.out lo us.length lc ys rfl (by rw [Y1.out, Nat.mul_one]) s1.out s2.out (nrows_cells Y1.out Y3.out) hsm.1 hsm.2 hbs ?_)
        intro v3 w3 hown hgrow
        have hr3 : ∀ k, (Value.slice so acc.length sc).ownBlock = some k → w.heap.size ≤ k ∧ k < wr.heap.size := fun k hk => OB.out k hk
        have B3 := Lib.hid (below_grown' B2.out hgrow fun k hk => (hr3 k hk).1)
        have N3 := Lib.hid (NRows.app X1.out Y1.out X3.out Y3.out hown)
        have BT3 := Lib.hid (HW.out.trans (B3.out.mono HW.out.size))
        have n3 : w3.cell? ⟨wr.heap.size, 3, none⟩ = some (.slice bo b.blocks.length bc) := by
          refine (World.cell?_of_block (a := ⟨wr.heap.size, 3, none⟩) (hgrow.block wr.heap.size (by have := WS.out; have := W2.out; omega) (fun q => ?_))).trans HG.out
          have := (hr3 _ q.symm).2
          omega
        have PI := Lib.hid (IH.out (by intro e; rw [e] at hjl; simp at hjl) w0 w3 _ b.blocks HRB.out BT3.out HB.out (by have := LU.out; omega))
        clear hown hgrow hr3 hsm hbs O2 B2
        obtain ⟨ro3, rc3, rfl⟩ := N3.out.len
        obtain ⟨zs, hz1', hz2', hz3'⟩ := N3.out
        have Z1 := Lib.hid hz1'
        have Z2 := Lib.hid hz2'
        have Z3 := Lib.hid hz3'
        clear hz1' hz2' hz3' N3
        generalize hac3 : acc ++ us = acc3 at *
        have HAC3 := Lib.hid hac3
        clear hac3
        go_wp2_with fail
        refine PI.out.mono ?_
        rintro e w4 ⟨v4, rfl, hn4, hb4⟩
        obtain ⟨qs, hq1, hq2, hq3⟩ := hn4
        generalize u b.blocks = ub at *
        obtain ⟨lo4, lc4, rfl⟩ := own_lenR hq2
        obtain ⟨T1, T2⟩ := own_srcX hq2
        have t1 := Lib.hid T1
        have t2 := Lib.hid T2
        have Q1 := Lib.hid hq1
        have Q3 := Lib.hid hq3
        have O4 := Lib.hid (own_below Z2.out hb4)
        have B4 := Lib.hid (B3.out.trans (hb4.mono B3.out.size))
        have hsm : acc3.length + ub.length ≤ maxLen ∧ (acc3.length + ub.length) * 24 ≤ 140737488355328 := by
          have := LU.out
          have h3 := congrArg List.length HAC3.out
          simp only [List.length_append] at h3
          unfold maxLen; omega
        have hbs : w.heap.size ≤ w4.heap.size := B4.out.size
        clear hq1 hq2 hq3 hb4 T1 T2 PI
        go_wp2_with (at_builtin; refine wpList_append_any _ rfl _ _ 44 rfl w.heap.size 36 i0 _ 1 24 Tryz.underlying44 hi0 hz0 hz1 hz2 rfl (by decide) (.slice ro3 acc3.length rc3) acc3.length zs rfl O4.out lo4 ub.length lc4 qs rfl (by rw [Q1.out, Nat.mul_one]) t1.out t2.out (nrows_cells Q1.out Q3.out) hsm.1 hsm.2 hbs ?_)
        intro v5 w5 hown5 hgrow5
        have hr5 : ∀ k, (Value.slice ro3 acc3.length rc3).ownBlock = some k → w.heap.size ≤ k := fun k hk => (World.ownsRow.lt O4.out k hk).1
        have B5 := Lib.hid (below_grown' B4.out hgrow5 hr5)
        have N5 := Lib.hid (show NRows w0 w5 w.heap.size v5 ((l.take (j + 1)).flatMap (usesB u)) by
          have := NRows.app Z1.out Q1.out Z3.out Q3.out hown5
          rw [SN.out]
          rw [← HAC3.out] at this
          simpa using this)
        clear hown5 hgrow5 hr5 hsm hbs
        go_wp2_with fail
        go_roundg (l.length - (j + 1))
        case rel => exact ⟨j + 1, rfl, Nat.le_refl _, hjl, B5.out, N5.out⟩
        case measure => have := HM.out; omega
      · have g1 : (b.kind == 4) = false := by simpa using k4
        have UB := Lib.hid (show usesB u b = u b.blocks by unfold usesB; rw [if_neg k4]; rfl)
        rw [UB.out] at SN LE
        have LU := Lib.hid (show acc.length ≤ 90000 ∧ acc.length + (u b.blocks).length ≤ 90000 by have := LE.out; omega)
        have n3 := cell_of_row _ _ 3 _ _ _ NB.out
        simp only [List.getElem?_toArray, List.getElem?_cons_zero, List.getElem?_cons_succ] at n3
        have PI := Lib.hid (IH.out (by intro e; rw [e] at hjl; simp at hjl) w0 (wr.alloc (.cells #[.int .i64 b.kind, .string b.label, .slice ato b.attrs.length atc, .slice bo b.blocks.length bc] 28)) _ b.blocks HRB.out BTA.out HB.out (by have := LU.out; omega))
        have N3 := Lib.hid (show NRows w0 (wr.alloc (.cells #[.int .i64 b.kind, .string b.label, .slice ato b.attrs.length atc, .slice bo b.blocks.length bc] 28)) w.heap.size (.slice so acc.length sc) acc from ⟨xs, X1.out, X2.out, X3.out⟩)
        have B3 := BA
        clear k4
        obtain ⟨zs, hz1', hz2', hz3'⟩ := N3.out
        have Z1 := Lib.hid hz1'
        have Z2 := Lib.hid hz2'
        have Z3 := Lib.hid hz3'
        clear hz1' hz2' hz3' N3
        go_wp2_with fail
        refine PI.out.mono ?_
        rintro e w4 ⟨v4, rfl, hn4, hb4⟩
        obtain ⟨qs, hq1, hq2, hq3⟩ := hn4
        generalize u b.blocks = ub at *
        obtain ⟨lo4, lc4, rfl⟩ := own_lenR hq2
        obtain ⟨T1, T2⟩ := own_srcX hq2
        have t1 := Lib.hid T1
        have t2 := Lib.hid T2
        have Q1 := Lib.hid hq1
        have Q3 := Lib.hid hq3
        have O4 := Lib.hid (own_below Z2.out hb4)
        have B4 := Lib.hid (B3.out.trans (hb4.mono B3.out.size))
        have hsm : acc.length + ub.length ≤ maxLen ∧ (acc.length + ub.length) * 24 ≤ 140737488355328 := by
          have := LU.out
          unfold maxLen; omega
        have hbs : w.heap.size ≤ w4.heap.size := B4.out.size
        clear hq1 hq2 hq3 hb4 T1 T2 PI
        go_wp2_with (at_builtin; refine wpList_append_any _ rfl _ _ 44 rfl w.heap.size 36 i0 _ 1 24 Tryz.underlying44 hi0 hz0 hz1 hz2 rfl (by decide) (.slice so acc.length sc) acc.length zs rfl O4.out lo4 ub.length lc4 qs rfl (by rw [Q1.out, Nat.mul_one]) t1.out t2.out (nrows_cells Q1.out Q3.out) hsm.1 hsm.2 hbs ?_)
        intro v5 w5 hown5 hgrow5
        have hr5 : ∀ k, (Value.slice so acc.length sc).ownBlock = some k → w.heap.size ≤ k := fun k hk => (World.ownsRow.lt O4.out k hk).1
        have B5 := Lib.hid (below_grown' B4.out hgrow5 hr5)
        have N5 := Lib.hid (show NRows w0 w5 w.heap.size v5 ((l.take (j + 1)).flatMap (usesB u)) by
          have := NRows.app Z1.out Q1.out Z3.out Q3.out hown5
          rw [SN.out]
          exact this)
        clear hown5 hgrow5 hr5 hsm hbs
        go_wp2_with fail
        go_roundg (l.length - (j + 1))
        case rel => exact ⟨j + 1, rfl, Nat.le_refl _, hjl, B5.out, N5.out⟩
        case measure => have := HM.out; omega
    · obtain rfl : j = l.length := by omega
      have N9 := Lib.hid (show NRows w0 wr w.heap.size (.slice so ((l.take l.length).flatMap (usesB u)).length sc) (l.flatMap (usesB u)) by
        have := HN.out
        rw [List.take_length] at this ⊢
        exact this)
      clear HN
      go_wp2_with fail
      go_ret
      exact ⟨_, rfl, N9.out, B.out⟩
theorem puses : ∀ d : Nat, UsesAt d := by
  intro d
  induction d with
  | zero =>
    intro w0 w bv l h hW ho hr
    obtain rfl : l = [] := ho
    exact puses_step w0 w 0 bv [] (fun h => absurd rfl h) h.more hW (by simp) (fun b hb => by cases hb) (by simp)
  | succ d ih =>
    intro w0 w bv l h hW ho hr
    exact puses_step w0 w d bv l (fun _ => ih) h hW ho.1 (fun b hb => ⟨(ho.2 b hb).1, (ho.2 b hb).2.2⟩) hr
end
end Go.Proofs.YtlkdicabmikhkaaGreatDoor
