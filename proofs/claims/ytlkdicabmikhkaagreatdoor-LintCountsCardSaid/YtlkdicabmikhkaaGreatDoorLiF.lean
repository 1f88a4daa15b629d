/- Package lint: what a scope warns of; new scopes. -/
import Derived.Test.YtlkdicabmikhkaaGreatDoorLiE
namespace Go.Proofs.YtlkdicabmikhkaaGreatDoor
open Go.RowKit Go.Sort
set_option linter.unusedVariables false
set_option linter.unusedSimpArgs false
theorem own_srcX {w : World} {B e z n cap : Nat} {ao : Option Addr} {xs : List Value} (h : w.ownsRow B e z (.slice ao n cap) n xs) : (ao = none → n = 0) ∧ ∀ ad, ao = some ad → ∀ j u, xs[j]? = some u → w.cell? (ad.add j) = some u := by
  rcases h.2 with ⟨e, h0⟩ | ⟨g, c, cur, e, _⟩
  · simp only [Value.slice.injEq] at e
    obtain ⟨rfl, -, -⟩ := e
    exact ⟨fun _ => h0, (fun ad h => by cases h)⟩
  · simp only [Value.slice.injEq] at e
    obtain ⟨rfl, -, -⟩ := e
    refine ⟨(fun h => by cases h), fun ad had j u hu => ?_⟩
    cases had
    exact World.ownsRow.cells (g := g) h rfl j u hu
theorem varsW_few (ns : List ByteArray) (p : ByteArray) {l : List BlkL} (hl : l.length ≤ 1000) : (varsW ns p l).length ≤ 1000 := by
  have := flat_few (varW ns p) 1 (varW_one ns p) l
  unfold varsW; omega
theorem locsW_few (ns : List ByteArray) (p : ByteArray) {l : List BlkL} (hl : l.length ≤ 1000) (h : ∀ b ∈ l, b.attrs.length ≤ 1000) : (locsW ns p l).length ≤ 1000000 := by
  have := flat_fewM (locB1 ns p) 1000 l fun b hb => locB1_few ns p (h b hb)
  unfold locsW; omega
theorem StrsIn.base {w : World} {B B' : Nat} {v : Value} {xs : List ByteArray} (h : StrsIn w B v xs) (hB : B' ≤ B) : StrsIn w B' v xs := by
  obtain ⟨ao, cap, rfl, hc⟩ := h
  refine ⟨ao, cap, rfl, fun j x hx => ?_⟩
  obtain ⟨g, o, e, h1, h2, h3⟩ := hc j x hx
  exact ⟨g, o, e, Nat.le_trans hB h1, h2, h3⟩
theorem StrsIn.setB {w : World} {B g o : Nat} {u v : Value} {xs : List ByteArray} (h : StrsIn w B v xs) (hg : g < B) : StrsIn (w.setCell ⟨g, o, none⟩ u) B v xs := by
  obtain ⟨ao, cap, rfl, hc⟩ := h
  refine ⟨ao, cap, rfl, fun j x hx => ?_⟩
  obtain ⟨g', o', e, h1, h2, h3⟩ := hc j x hx
  refine ⟨g', o', e, h1, by simpa [World.setCell] using h2, ?_⟩
  refine (World.cell?_setCell_other (w := w) (a := ⟨g, o, none⟩) (v := u) (b := ⟨g', o' + j, none⟩) (fun e => ?_)).trans h3
  simp only [Addr.mk.injEq] at e
  omega
/-- Blocks whose names, attributes are not too many. -/
structure ScopeOK (l : List BlkL) : Prop where
  few : l.length ≤ 1000
  label : ∀ b ∈ l, b.label.size ≤ 100000
  attrs : ∀ b ∈ l, b.attrs.length ≤ 1000 ∧ ∀ a ∈ b.attrs, a.1.size ≤ 100000
  refs : ∀ b ∈ l, RefsOK b.attrs
  all : (refsL l).length ≤ 90000
section
variable (w : World)
set_option maxHeartbeats 1000000 in
set_option maxRecDepth 20000 in
theorem pwarns (d Bn : Nat) (nv bv : Value) (ns : List ByteArray) (l : List BlkL) (p : ByteArray) (hn : StrsIn w Bn nv ns) (hnl : ns.length ≤ 100000) (h : BlksRd (d + 1) w bv l) (ho : ScopeOK l) (hp : p.size ≤ 200000) :
    Calls Tryz.prog 12 #[.agg #[nv, bv, .string p]] w fun e w' => ∃ v, e = .returned v ∧ w'.ownsRow w.heap.size 40 2 v (varsW ns p l ++ locsW ns p l).length (warnCells (varsW ns p l ++ locsW ns p l)) ∧ Below w.heap.size w w' := by
  obtain ⟨no, nc, rfl, -⟩ := id hn
  obtain ⟨ao, cap, rfl⟩ := h.len
  obtain ⟨i0, hi0, hz0, hz1, hz2⟩ := info_parts info_warn
  have HO := Lib.hid ho
  have BA := Lib.hid (below_al (Below.refl w.heap.size w) (.cells #[.slice no ns.length nc, .slice ao l.length cap, .string p] 53))
  have HN := Lib.hid (hn.hold BA.out)
  have H := Lib.hid (h.below BA.out)
  have NB := Lib.hid (heap_alloc_new w (.cells #[.slice no ns.length nc, .slice ao l.length cap, .string p] 53))
  clear hn h ho
  go_enter Tryz.func12, Tryz.ntmps12
  go_wp2_with fail
  generalize w.alloc (.cells #[.slice no ns.length nc, .slice ao l.length cap, .string p] 53) = W at *
  have WS := Lib.hid BA.out.size
  have PV := Lib.hid (fun V (hV : Below W.heap.size W V) => pvariables V d Bn _ _ ns l p (HN.out.hold hV) hnl (H.out.below hV) HO.out.few HO.out.label hp)
  have PL := Lib.hid (fun V (hV : Below W.heap.size W V) => plocals V d Bn _ _ ns l p (HN.out.hold hV) hnl (H.out.below hV) HO.out.few HO.out.attrs hp)
  have m0 := cell_of_row _ _ 0 _ _ _ NB.out
  have m1 := cell_of_row _ _ 1 _ _ _ NB.out
  have m2 := cell_of_row _ _ 2 _ _ _ NB.out
  simp only [List.getElem?_toArray, List.getElem?_cons_zero, List.getElem?_cons_succ] at m0 m1 m2
  have hsm : (varsW ns p l).length + (locsW ns p l).length ≤ maxLen ∧ ((varsW ns p l).length + (locsW ns p l).length) * 24 ≤ 140737488355328 := by
    have := varsW_few ns p HO.out.few
    have := locsW_few ns p HO.out.few fun b hb => (HO.out.attrs b hb).1
    unfold maxLen; omega
  have BW := Lib.hid (Below.refl W.heap.size W)
  generalize hxs : varsW ns p l = xs at *
  generalize hys : locsW ns p l = ys at *
  have HX := Lib.hid hxs
  have HY := Lib.hid hys
  clear HN H HO hnl hxs hys
  go_region_law (first
    | (go_simp; go_at_call 18; refine (PV.out _ ?_).mono ?_; (· first | exact Below.refl _ _ | exact below_drewN (Below.refl _ _) _ | exact below_drew (Below.refl _ _)); rintro e w1 ⟨v1, rfl, o1, hb1⟩; obtain ⟨so, sc, rfl⟩ := own_lenR o1; have O1 := Lib.hid o1; replace hb1 : Below W.heap.size W w1 := ⟨hb1.os, hb1.tape, hb1.output, hb1.size, hb1.block⟩; have B1 := Lib.hid hb1; have c0 := hold hb1 m0; have c1 := hold hb1 m1; have c2 := hold hb1 m2; clear o1 hb1)
    | (go_simp; go_at_call 19; refine (PL.out _ ?_).mono ?_; (· first | exact B1.out | exact below_drew B1.out); rintro e w2 ⟨v2, rfl, o2, hb2⟩; obtain ⟨lo, lc, rfl⟩ := own_lenR o2; obtain ⟨S1, S2⟩ := own_srcX o2; have s1 := Lib.hid S1; have s2 := Lib.hid S2; replace hb2 : Below w1.heap.size w1 w2 := ⟨hb2.os, hb2.tape, hb2.output, hb2.size, hb2.block⟩; have O2 := Lib.hid (own_base (own_below O1.out hb2) WS.out); have B2 := Lib.hid (BA.out.trans ((B1.out.trans (hb2.mono B1.out.size)).mono WS.out)); have hbs : w.heap.size ≤ w2.heap.size := B2.out.size; clear o2 hb2 S1 S2)
    | (refine step_append_opt (by rfl) _ _ _ (by rfl) w.heap.size 40 i0 _ 2 24 Tryz.underlying25 hi0 hz0 hz1 hz2 rfl (by decide) (.slice so xs.length sc) xs.length (warnCells xs) (by rfl) ?_ lo ys.length lc (warnCells ys) (by rfl) (warn_len _) s1.out ?_ (warn_one _) hsm.1 hsm.2 ?_ ?_; (· exact O2.out); (· exact s2.out); (· exact hbs); intro v9 w9 hown hgrow))
  all_goals
    have hr9 : ∀ k, (Value.slice so xs.length sc).ownBlock = some k → w.heap.size ≤ k := fun k hk => (World.ownsRow.lt O2.out k hk).1
    have B9 := Lib.hid (below_grown' B2.out hgrow hr9)
    have O9 := Lib.hid (show w9.ownsRow w.heap.size 40 2 v9 (xs ++ ys).length (warnCells (xs ++ ys)) by rw [List.length_append, warn_app]; exact hown)
    clear hown hgrow hsm
    go_wp2_with fail
    go_ret
    exact ⟨v9, rfl, by rw [HX.out, HY.out]; exact O9.out, B9.out⟩
set_option maxHeartbeats 1000000 in
set_option maxRecDepth 20000 in
theorem pnewScope (d : Nat) (bv : Value) (l : List BlkL) (p : ByteArray) (h : BlksRd (d + 1) w bv l) (ho : ScopeOK l) (hv : ErrVar w) :
    Calls Tryz.prog 11 #[bv, .string p] w fun e w' => ∃ v, e = .returned (.agg #[v, bv, .string p]) ∧ StrsIn w' w.heap.size v (namesU (refsL l)) ∧ Below w.heap.size w w' := by
  have HO := Lib.hid ho
  obtain ⟨ao, cap, rfl⟩ := h.len
  have PR := Lib.hid (fun V (hV : Below w.heap.size w V) => preferences V d _ l (h.below hV) ho.few (fun b hb => ⟨(ho.attrs b hb).1, ho.refs b hb⟩) ho.all (hv.below hV hv.lt))
  have HR := Lib.hid ho.all
  clear ho h
  go_enter Tryz.func11, Tryz.ntmps11
  go_wp2_with fail
  have BA := Lib.hid (below_al (Below.refl w.heap.size w) (.cells #[.slice none 0 0, .slice none 0 0, .string ⟨#[]⟩] 53))
  have NB := Lib.hid (heap_alloc_new w (.cells #[.slice none 0 0, .slice none 0 0, .string ⟨#[]⟩] 53))
  have WS := Lib.hid (show (w.alloc (.cells #[.slice none 0 0, .slice none 0 0, .string ⟨#[]⟩] 53)).heap.size = w.heap.size + 1 by simp)
  generalize w.alloc (.cells #[.slice none 0 0, .slice none 0 0, .string ⟨#[]⟩] 53) = W at *
  refine (PR.out _ BA.out).mono ?_
  rintro e w1 ⟨v1, rfl, o1, hb1⟩
  have B1 := Lib.hid hb1
  have PN := Lib.hid (pnames w1 W.heap.size v1 (refsL l) o1 HR.out)
  clear o1 hb1 PR
  go_wp2_with fail
  refine PN.out.mono ?_
  rintro e w2 ⟨v2, rfl, h2, hb2⟩
  have H2 := Lib.hid h2
  have B2 := Lib.hid (B1.out.trans hb2)
  obtain ⟨xo, xc, rfl, -⟩ := h2
  have N2 := (B2.out.block _ (Array.getElem?_eq_some_iff.1 NB.out).1).trans NB.out
  have m0 := cell_of_row _ _ 0 _ _ _ N2
  have m1 := cell_of_row _ _ 1 _ _ _ N2
  have m2 := cell_of_row _ _ 2 _ _ _ N2
  simp only [List.getElem?_toArray, List.getElem?_cons_zero, List.getElem?_cons_succ] at m0 m1 m2
  have f0 := frozen_of_row _ _ 0 _ _ N2
  have f1 := frozen_of_row _ _ 1 _ _ N2
  have f2 := frozen_of_row _ _ 2 _ _ N2
  clear hb2 PN N2
  generalize (namesU (refsL l)).length = nn at *
  go_wp2_with fail
  refine bodyPost_ret (v := .agg #[.slice xo nn xc, .slice ao l.length cap, .string p]) ?_ rfl ⟨_, rfl, ?_, ?_⟩
  · simp [results, Tryz.results11, go_sem, m0, m1, m2]
  · exact (((H2.out.setB (by have := WS.out; omega)).setB (by have := WS.out; omega)).setB (by have := WS.out; omega)).base (by have := WS.out; omega)
  · have h := (BA.out.trans (B2.out.mono BA.out.size))
    exact ((h.setCell (p := ⟨w.heap.size, 0, none⟩) (Nat.le_refl _) _).setCell (p := ⟨w.heap.size, 1, none⟩) (Nat.le_refl _) _).setCell (p := ⟨w.heap.size, 2, none⟩) (Nat.le_refl _) _
end
end Go.Proofs.YtlkdicabmikhkaaGreatDoor
