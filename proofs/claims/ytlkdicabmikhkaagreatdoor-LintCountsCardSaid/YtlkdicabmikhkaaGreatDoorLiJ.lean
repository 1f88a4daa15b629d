/- Package lint: Warns of blocks that may be. -/
import Derived.Test.YtlkdicabmikhkaaGreatDoorLiI
namespace Go.Proofs.YtlkdicabmikhkaaGreatDoor
open Go.RowKit Go.Sort
set_option linter.unusedVariables false
set_option linter.unusedSimpArgs false
def sDot : ByteArray := ⟨#[46]⟩
def inL (b : BlkL) : List (Int × ByteArray) := if b.kind = 5 then scopeW (b.label ++ sDot) b.blocks else []
/-- What Warns tells of blocks that may be. -/
def warnsL (d : Nat) (l : List BlkL) : List (Int × ByteArray) := scopeW ⟨#[]⟩ l ++ l.flatMap inL ++ definesL (usesD (d + 1) l) l
/-- Blocks of which nothing is too much. -/
structure LintOK (d : Nat) (l : List BlkL) : Prop where
  may : BlksOK (d + 1) l
  top : ScopeOK l
  sub : ∀ b ∈ l, ScopeOK b.blocks
  uses : (usesD (d + 1) l).length ≤ 90000
  said : ∀ ns ∈ usesD (d + 1) l, ns.length ≤ 1000 ∧ ∀ n ∈ ns, n.parts.length ≤ 100000
theorem scopeW_few (p : ByteArray) {l : List BlkL} (h : ScopeOK l) : (scopeW p l).length ≤ 1001000 := by
  unfold scopeW
  rw [List.length_append]
  have := varsW_few (namesU (refsL l)) p h.few
  have := locsW_few (namesU (refsL l)) p h.few fun b hb => (h.attrs b hb).1
  omega
theorem inL_few {b : BlkL} (h : ScopeOK b.blocks) : (inL b).length ≤ 1001000 := by
  unfold inL
  split
  · exact scopeW_few _ h
  · simp
theorem definesL_few (u : List (List NodeL)) {l : List BlkL} (h : l.length ≤ 1000) : (definesL u l).length ≤ 1000 := by
  unfold definesL
  split
  · simp
  · rename_i ls _
    have := flat_few (defW (namesU ls)) 1 (defW_one _) l
    omega
def WnRel (w : World) (x0 : List (Int × ByteArray)) (l : List BlkL) (m : Nat) (sv iv : Value) (wr : World) : Prop :=
  ∃ j : Nat, iv = .int .i64 j ∧ l.length - j ≤ m ∧ j ≤ l.length ∧ Below w.heap.size w wr ∧ wr.ownsRow w.heap.size 40 2 sv (x0 ++ (l.take j).flatMap inL).length (warnCells (x0 ++ (l.take j).flatMap inL))
section
variable (w : World)
set_option maxHeartbeats 1000000 in
set_option maxRecDepth 20000 in
/-- A new scope, and what it warns of. -/
theorem pscopeW (d : Nat) (bv : Value) (l : List BlkL) (p : ByteArray) (h : BlksRd (d + 1) w bv l) (ho : ScopeOK l) (hp : p.size ≤ 200000) (hv : ErrVar w) :
    ∀ Q : Value → World → Prop, (∀ v w', w'.ownsRow w.heap.size 40 2 v (scopeW p l).length (warnCells (scopeW p l)) → Below w.heap.size w w' → Q v w') →
    Calls Tryz.prog 11 #[bv, .string p] w fun e w' => ∃ s, e = .returned s ∧ (∃ v, s = .agg #[v, bv, .string p]) ∧ Below w.heap.size w w' ∧ Calls Tryz.prog 12 #[s] w' fun e w'' => ∃ v, e = .returned v ∧ Q v w'' := by
  intro Q hQ
  refine (pnewScope w d bv l p h ho hv).mono ?_
  rintro e w1 ⟨v, rfl, hs, hb⟩
  refine ⟨_, rfl, ⟨v, rfl⟩, hb, ?_⟩
  refine (pwarns w1 d w.heap.size v bv _ l p hs (by have := namesU_le (refsL l); have := ho.all; omega) (h.below hb) ho hp).mono ?_
  rintro e w2 ⟨v2, rfl, o2, hb2⟩
  exact ⟨v2, rfl, hQ v2 w2 (own_base o2 hb.size) (hb.trans (hb2.mono hb.size))⟩
set_option maxHeartbeats 4000000 in
set_option maxRecDepth 20000 in
theorem pWarns (d : Nat) (bv : Value) (l : List BlkL) (h : BlksRd (d + 2) w bv l) (ho : LintOK (d + 1) l) (hv : ErrVar w) :
    Calls Tryz.prog 8 #[bv] w fun e w' => ∃ v, e = .returned v ∧ w'.ownsRow w.heap.size 40 2 v (warnsL (d + 1) l).length (warnCells (warnsL (d + 1) l)) ∧ Below w.heap.size w w' := by
  have PM := Lib.hid (pmay (d + 2) w bv l h ho.may hv)
  have H := Lib.hid h
  have HO := Lib.hid ho
  have hl := ho.top.few
  have V := Lib.hid hv
  obtain ⟨ao, cap, rfl⟩ := h.len
  obtain ⟨i0, hi0, hz0, hz1, hz2⟩ := info_parts info_warn
  clear h ho hv
  go_enter Tryz.func8, Tryz.ntmps8
  go_wp2_with fail
  refine PM.out.mono ?_
  rintro e w1 ⟨rfl, hb1⟩
  have B1 := Lib.hid hb1
  clear hb1 PM
  have PS := Lib.hid (pscopeW w1 (d + 1) _ l ⟨#[]⟩ (H.out.below B1.out) HO.out.top (by show (0 : Nat) ≤ _; omega) (V.out.below B1.out V.out.lt))
  go_wp2_with fail
  refine (PS.out (fun v w' => w'.ownsRow w1.heap.size 40 2 v (scopeW ⟨#[]⟩ l).length (warnCells (scopeW ⟨#[]⟩ l)) ∧ Below w1.heap.size w1 w') (fun v w' h1 h2 => ⟨h1, h2⟩)).mono ?_
  rintro e w2 ⟨s, rfl, ⟨sv, rfl⟩, hb2, hc⟩
  have C2 := Lib.hid hc
  clear hb2 hc PS
  go_wp2_with fail
  refine C2.out.mono ?_
  rintro e w3 ⟨v3, rfl, o3, hb3⟩
  have O3 := Lib.hid (own_base o3 B1.out.size)
  have B3 := Lib.hid (B1.out.trans (hb3.mono B1.out.size))
  obtain ⟨ro, rc, rfl⟩ := own_lenR o3
  generalize hx0 : scopeW ⟨#[]⟩ l = x0 at *
  have X0 := Lib.hid hx0
  clear o3 hb3 C2 hx0
  go_wp2_with fail
  go_loopg [3, 14] l.length (fun m sv iv wr => WnRel w x0 l m sv iv wr)
  case atStart => exact ⟨0, rfl, Nat.le_refl _, Nat.zero_le _, B3.out, by rw [List.take_zero]; show World.ownsRow _ _ _ _ _ (x0 ++ []).length (warnCells (x0 ++ [])); rw [List.append_nil]; exact O3.out⟩
  case round =>
    obtain ⟨j, rfl, hm, hj, hb, hn⟩ := hrel
    have HM := Lib.hid hm
    have B := Lib.hid hb
    obtain ⟨so, sc, rfl⟩ := own_lenR hn
    have HN := Lib.hid hn
    clear hm hn
    by_cases hjl : j < l.length
    · obtain ⟨b, hbj⟩ : ∃ b, l[j]? = some b := ⟨_, List.getElem?_eq_getElem hjl⟩
      have hmem := List.mem_of_getElem? hbj
      have hbz := HO.out.top.label b hmem
      have SB := Lib.hid (HO.out.sub b hmem)
      have SN := Lib.hid (show x0 ++ (l.take (j + 1)).flatMap inL = (x0 ++ (l.take j).flatMap inL) ++ inL b by rw [flat_snoc _ hbj, List.append_assoc])
      have LE := Lib.hid (show (x0 ++ (l.take j).flatMap inL).length + (inL b).length ≤ 1003002000 by
        have h1 := flat_fewM inL 1001000 (l.take j) fun b hb => inL_few (HO.out.sub b (List.mem_of_mem_take hb))
        have h2 : (l.take j).length ≤ l.length := List.length_take_le' _ _
        have h3 : x0.length ≤ 1001000 := by rw [← X0.out]; exact scopeW_few _ HO.out.top
        have h4 := inL_few (HO.out.sub b hmem)
        rw [List.length_append]; omega)
      obtain ⟨ao2, cap2, e2, hat⟩ := H.out
      simp at e2
      obtain ⟨rfl, rfl⟩ := e2
      obtain ⟨g, o, ato, atc, bo, bc, rfl, c0, c1, c2, c3, -, hrb⟩ := hat j b hbj
      replace c0 := hold hb c0
      replace c1 := hold hb c1
      replace c2 := hold hb c2
      replace c3 := hold hb c3
      have BA := Lib.hid (below_al hb (.cells #[.int .i64 b.kind, .string b.label, .slice ato b.attrs.length atc, .slice bo b.blocks.length bc] 28))
      have OA := Lib.hid (World.ownsRow.alloc HN.out (.cells #[.int .i64 b.kind, .string b.label, .slice ato b.attrs.length atc, .slice bo b.blocks.length bc] 28))
      have NB := Lib.hid (heap_alloc_new wr (.cells #[.int .i64 b.kind, .string b.label, .slice ato b.attrs.length atc, .slice bo b.blocks.length bc] 28))
      have HRB := Lib.hid (hrb.below BA.out)
      clear hat hbj hmem hrb hb HN
      generalize x0 ++ (l.take j).flatMap inL = acc at *
      by_cases k5 : b.kind = 5
      · have g1 : (b.kind == 5) = true := by simpa using k5
        have IB := Lib.hid (show inL b = scopeW (b.label ++ ⟨#[46]⟩) b.blocks by unfold inL; rw [if_pos k5]; rfl)
        rw [IB.out] at SN LE
        have hsz : (b.label ++ ⟨#[46]⟩ : ByteArray).size ≤ maxLen := by rw [ByteArray.size_append]; unfold maxLen; show b.label.size + 1 ≤ _; omega
        have PS := Lib.hid (pscopeW (wr.alloc (.cells #[.int .i64 b.kind, .string b.label, .slice ato b.attrs.length atc, .slice bo b.blocks.length bc] 28)) d _ b.blocks (b.label ++ ⟨#[46]⟩) HRB.out SB.out (by rw [ByteArray.size_append]; show b.label.size + 1 ≤ _; omega) (V.out.below BA.out V.out.lt))
        have m1 := cell_of_row _ _ 1 _ _ _ NB.out
        have m3 := cell_of_row _ _ 3 _ _ _ NB.out
        simp only [List.getElem?_toArray, List.getElem?_cons_zero, List.getElem?_cons_succ] at m1 m3
        clear k5 IB
        go_wp2_with fail
        generalize wr.alloc (.cells #[.int .i64 b.kind, .string b.label, .slice ato b.attrs.length atc, .slice bo b.blocks.length bc] 28) = wa at *
        generalize scopeW (b.label ++ ⟨#[46]⟩) b.blocks = ys at *
        refine (PS.out (fun v w' => w'.ownsRow wa.heap.size 40 2 v ys.length (warnCells ys) ∧ Below wa.heap.size wa w') (fun v w' h1 h2 => ⟨h1, h2⟩)).mono ?_
        rintro e w5 ⟨s, rfl, ⟨sv5, rfl⟩, -, hc⟩
        have C5 := Lib.hid hc
        clear hc PS m1 m3
        go_wp2_with fail
        refine C5.out.mono ?_
        rintro e w6 ⟨v6, rfl, o6, hb6⟩
        obtain ⟨lo, lc, rfl⟩ := own_lenR o6
        obtain ⟨S1, S2⟩ := own_srcX o6
        have s1 := Lib.hid S1
        have s2 := Lib.hid S2
        have O6 := Lib.hid (own_below OA.out hb6)
        have B6 := Lib.hid (BA.out.trans (hb6.mono BA.out.size))
        have hbs : w.heap.size ≤ w6.heap.size := B6.out.size
        have hsm : acc.length + ys.length ≤ maxLen ∧ (acc.length + ys.length) * 24 ≤ 140737488355328 := by have := LE.out; unfold maxLen; omega
        clear o6 hb6 S1 S2 C5
        go_wp2_with (at_builtin; refine wpList_append_any _ rfl _ _ 25 rfl w.heap.size 40 i0 _ 2 24 Tryz.underlying25 hi0 hz0 hz1 hz2 rfl (by decide) (.slice so acc.length sc) acc.length (warnCells acc) rfl O6.out lo ys.length lc (warnCells ys) rfl (warn_len _) s1.out s2.out (warn_one _) hsm.1 hsm.2 hbs ?_)
        intro v9 w9 hown hgrow
        have hr9 : ∀ k, (Value.slice so acc.length sc).ownBlock = some k → w.heap.size ≤ k := fun k hk => (World.ownsRow.lt O6.out k hk).1
        have B9 := Lib.hid (below_grown' B6.out hgrow hr9)
        have O9 := Lib.hid (show w9.ownsRow w.heap.size 40 2 v9 (x0 ++ (l.take (j + 1)).flatMap inL).length (warnCells (x0 ++ (l.take (j + 1)).flatMap inL)) by rw [SN.out, List.length_append, warn_app]; exact hown)
        clear hown hgrow hsm
        go_wp2_with fail
        go_roundg (l.length - (j + 1))
        case rel => exact ⟨j + 1, rfl, Nat.le_refl _, hjl, B9.out, O9.out⟩
        case measure => have := HM.out; omega
      · have g1 : (b.kind == 5) = false := by simpa using k5
        have IB := Lib.hid (show inL b = [] by unfold inL; rw [if_neg k5])
        rw [IB.out, List.append_nil] at SN
        clear k5
        go_wp2_with fail
        go_roundg (l.length - (j + 1))
        case rel => exact ⟨j + 1, rfl, Nat.le_refl _, hjl, BA.out, by rw [SN.out]; exact OA.out⟩
        case measure => have := HM.out; omega
    · obtain rfl : j = l.length := by omega
      rw [List.take_length] at HN ⊢
      have PD := Lib.hid (pdefines wr (d + 1) _ l (H.out.below B.out) HO.out.may HO.out.uses HO.out.said)
      have WL := Lib.hid (show warnsL (d + 1) l = (x0 ++ l.flatMap inL) ++ definesL (usesD (d + 2) l) l by unfold warnsL; rw [X0.out])
      have LE := Lib.hid (show (x0 ++ l.flatMap inL).length + (definesL (usesD (d + 2) l) l).length ≤ 1003002000 by
        have h1 := flat_fewM inL 1001000 l fun b hb => inL_few (HO.out.sub b hb)
        have h3 : x0.length ≤ 1001000 := by rw [← X0.out]; exact scopeW_few _ HO.out.top
        have h4 := definesL_few (usesD (d + 2) l) hl
        rw [List.length_append]; omega)
      generalize x0 ++ l.flatMap inL = acc at *
      have PD2 := Lib.hid (show Calls Tryz.prog 13 #[.slice ao l.length cap] wr fun e w' => ∃ v, e = .returned v ∧ w'.ownsRow wr.heap.size 40 2 v (definesL (usesD (d + 2) l) l).length (warnCells (definesL (usesD (d + 2) l) l)) ∧ Below wr.heap.size wr w' from PD.out)
      generalize definesL (usesD (d + 2) l) l = ys at *
      clear PD hb
      go_wp2_with fail
      refine PD2.out.mono ?_
      rintro e w6 ⟨v6, rfl, o6, hb6⟩
      obtain ⟨lo, lc, rfl⟩ := own_lenR o6
      obtain ⟨S1, S2⟩ := own_srcX o6
      have s1 := Lib.hid S1
      have s2 := Lib.hid S2
      have O6 := Lib.hid (own_below HN.out hb6)
      have B6 := Lib.hid (B.out.trans (hb6.mono B.out.size))
      have hbs : w.heap.size ≤ w6.heap.size := B6.out.size
      have hsm : acc.length + ys.length ≤ maxLen ∧ (acc.length + ys.length) * 24 ≤ 140737488355328 := by have := LE.out; unfold maxLen; omega
      clear o6 hb6 S1 S2 PD2
      go_wp2_with (at_builtin; refine wpList_append_any _ rfl _ _ 25 rfl w.heap.size 40 i0 _ 2 24 Tryz.underlying25 hi0 hz0 hz1 hz2 rfl (by decide) (.slice so acc.length sc) acc.length (warnCells acc) rfl O6.out lo ys.length lc (warnCells ys) rfl (warn_len _) s1.out s2.out (warn_one _) hsm.1 hsm.2 hbs ?_)
      intro v9 w9 hown hgrow
      have hr9 : ∀ k, (Value.slice so acc.length sc).ownBlock = some k → w.heap.size ≤ k := fun k hk => (World.ownsRow.lt O6.out k hk).1
      have B9 := Lib.hid (below_grown' B6.out hgrow hr9)
      have O9 := Lib.hid (show w9.ownsRow w.heap.size 40 2 v9 (warnsL (d + 1) l).length (warnCells (warnsL (d + 1) l)) by rw [WL.out, List.length_append, warn_app]; exact hown)
      clear hown hgrow hsm WL
      go_wp2_with fail
      go_ret
      exact ⟨_, rfl, O9.out, B9.out⟩
end
end Go.Proofs.YtlkdicabmikhkaaGreatDoor
